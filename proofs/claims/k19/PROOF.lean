import PyProof.Rows.All
import Wide.All
import OpenK.AllK
import Wide.FinOn
import HandS.ForMost
import HandS.Wide
import HandS.Gcd
import HandS.Style
import HandS.IsInst
import HandS.Codes
import HandS.NoneIn
import HandS.Deep
import HandS.SortInts
import HandS.SortRule
import Flt.RightSqrt
import HandS.WideBits
import HandS.Conv
import KE.DatumOrd
import PyProof.Rows.RowBridgeK
import KE.SortData
import HandS.TupSets
import HandS.SetKeys
import HandS.Flow
import HandS.Zip
import PySem.Challenge.RW_wholeconic_k19_whole_group_of_classes
set_option Elab.async false
set_option linter.all false
set_option maxRecDepth 100000
set_option maxHeartbeats 4000000
namespace Wc
open PySem PySem.Spec PyProof.Rows L2
/-! ### the text -/
def topS (i : Nat) : Stmt := PySem.Challenge.pw_wholeconic_k19_whole_group_of_classes.main.body.getD i (.Pass ⟨0, 0, 0, 0⟩)
abbrev sBezout : Stmt := topS 3
theorem scBezout : FnScope ["a", "b", "g", "u", "v", "rest", "rest_u", "rest_v", "part"] ["a", "b"] (defScope sBezout) := ⟨rfl, rfl, rfl, by decide +kernel, rfl, by decide +kernel, by decide +kernel⟩
abbrev sMeasure : Stmt := topS 4
theorem scMeasure : FnScope ["numbers", "found", "number"] ["numbers"] (defScope sMeasure) := ⟨rfl, rfl, rfl, by decide +kernel, rfl, by decide +kernel, by decide +kernel⟩
abbrev sFloorRoot : Stmt := topS 5
theorem scFloorRoot : FnScope ["n"] ["n"] (defScope sFloorRoot) := ⟨rfl, rfl, rfl, by decide +kernel, rfl, by decide +kernel, by decide +kernel⟩
abbrev sIsSquare : Stmt := topS 6
theorem scIsSquare : FnScope ["n", "root"] ["n"] (defScope sIsSquare) := ⟨rfl, rfl, rfl, by decide +kernel, rfl, by decide +kernel, by decide +kernel⟩
abbrev sPowerModulo : Stmt := topS 7
theorem scPowerModulo : FnScope ["base", "many", "modulus", "result", "square"] ["base", "many", "modulus"] (defScope sPowerModulo) := ⟨rfl, rfl, rfl, by decide +kernel, rfl, by decide +kernel, by decide +kernel⟩
abbrev sTakenOut : Stmt := topS 8
theorem scTakenOut : FnScope ["n", "p", "many"] ["n", "p"] (defScope sTakenOut) := ⟨rfl, rfl, rfl, by decide +kernel, rfl, by decide +kernel, by decide +kernel⟩
abbrev sIsPrime : Stmt := topS 9
theorem scIsPrime : FnScope ["n", "p", "many", "odd", "base"] ["n"] (defScope sIsPrime) := ⟨rfl, rfl, rfl, by decide +kernel, rfl, by decide +kernel, by decide +kernel⟩
abbrev sBehavesAsPrime : Stmt := topS 10
theorem scBehavesAsPrime : FnScope ["n", "base", "many", "odd", "number", "_"] ["n", "base", "many", "odd"] (defScope sBehavesAsPrime) := ⟨rfl, rfl, rfl, by decide +kernel, rfl, by decide +kernel, by decide +kernel⟩
abbrev sPrimeParts : Stmt := topS 11
theorem scPrimeParts : FnScope ["n", "parts", "rest", "p", "many"] ["n"] (defScope sPrimeParts) := ⟨rfl, rfl, rfl, by decide +kernel, rfl, by decide +kernel, by decide +kernel⟩
abbrev sLeastMeasure : Stmt := topS 12
theorem scLeastMeasure : FnScope ["n", "start", "number"] ["n", "start"] (defScope sLeastMeasure) := ⟨rfl, rfl, rfl, by decide +kernel, rfl, by decide +kernel, by decide +kernel⟩
abbrev sDiscriminant : Stmt := topS 14
theorem scDiscriminant : FnScope ["form", "a", "b", "c"] ["form"] (defScope sDiscriminant) := ⟨rfl, rfl, rfl, by decide +kernel, rfl, by decide +kernel, by decide +kernel⟩
abbrev sContent : Stmt := topS 15
theorem scContent : FnScope ["form"] ["form"] (defScope sContent) := ⟨rfl, rfl, rfl, by decide +kernel, rfl, by decide +kernel, by decide +kernel⟩
abbrev sWorth : Stmt := topS 16
theorem scWorth : FnScope ["form", "point", "a", "b", "c", "x", "y"] ["form", "point"] (defScope sWorth) := ⟨rfl, rfl, rfl, by decide +kernel, rfl, by decide +kernel, by decide +kernel⟩
abbrev sAct : Stmt := topS 17
theorem scAct : FnScope ["form", "m", "a", "b", "c", "p", "q", "r", "s", "middle"] ["form", "m"] (defScope sAct) := ⟨rfl, rfl, rfl, by decide +kernel, rfl, by decide +kernel, by decide +kernel⟩
abbrev sScaled : Stmt := topS 18
theorem scScaled : FnScope ["form", "number", "a", "b", "c"] ["form", "number"] (defScope sScaled) := ⟨rfl, rfl, rfl, by decide +kernel, rfl, by decide +kernel, by decide +kernel⟩
abbrev sKind : Stmt := topS 19
theorem scKind : FnScope ["form", "d"] ["form"] (defScope sKind) := ⟨rfl, rfl, rfl, by decide +kernel, rfl, by decide +kernel, by decide +kernel⟩
abbrev sPointApart : Stmt := topS 20
theorem scPointApart : FnScope ["form", "number", "a", "_", "c", "x", "y", "p"] ["form", "number"] (defScope sPointApart) := ⟨rfl, rfl, rfl, by decide +kernel, rfl, by decide +kernel, by decide +kernel⟩
abbrev sMultiply : Stmt := topS 23
theorem scMultiply : FnScope ["m", "n", "p", "q", "r", "s", "p2", "q2", "r2", "s2"] ["m", "n"] (defScope sMultiply) := ⟨rfl, rfl, rfl, by decide +kernel, rfl, by decide +kernel, by decide +kernel⟩
abbrev sDeterminant : Stmt := topS 24
theorem scDeterminant : FnScope ["m", "p", "q", "r", "s"] ["m"] (defScope sDeterminant) := ⟨rfl, rfl, rfl, by decide +kernel, rfl, by decide +kernel, by decide +kernel⟩
abbrev sNegative : Stmt := topS 25
theorem scNegative : FnScope ["m", "p", "q", "r", "s"] ["m"] (defScope sNegative) := ⟨rfl, rfl, rfl, by decide +kernel, rfl, by decide +kernel, by decide +kernel⟩
abbrev sInverse : Stmt := topS 26
theorem scInverse : FnScope ["m", "p", "q", "r", "s", "turned"] ["m"] (defScope sInverse) := ⟨rfl, rfl, rfl, by decide +kernel, rfl, by decide +kernel, by decide +kernel⟩
abbrev sCompleted : Stmt := topS 27
theorem scCompleted : FnScope ["point", "x", "y", "_", "u", "v"] ["point"] (defScope sCompleted) := ⟨rfl, rfl, rfl, by decide +kernel, rfl, by decide +kernel, by decide +kernel⟩
abbrev sIsReducedDefinite : Stmt := topS 29
theorem scIsReducedDefinite : FnScope ["form", "a", "b", "c"] ["form"] (defScope sIsReducedDefinite) := ⟨rfl, rfl, rfl, by decide +kernel, rfl, by decide +kernel, by decide +kernel⟩
abbrev sReduceDefinite : Stmt := topS 31
theorem scReduceDefinite : FnScope ["form", "found", "m", "step"] ["form"] (defScope sReduceDefinite) := ⟨rfl, rfl, rfl, by decide +kernel, rfl, by decide +kernel, by decide +kernel⟩
abbrev sStepDown : Stmt := topS 32
theorem scStepDown : FnScope ["form", "a", "b", "c", "n"] ["form"] (defScope sStepDown) := ⟨rfl, rfl, rfl, by decide +kernel, rfl, by decide +kernel, by decide +kernel⟩
abbrev sPositiveClasses : Stmt := topS 33
theorem scPositiveClasses : FnScope ["d", "found", "a", "b", "form"] ["d"] (defScope sPositiveClasses) := ⟨rfl, rfl, rfl, by decide +kernel, rfl, by decide +kernel, by decide +kernel⟩
abbrev sIsReducedIndefinite : Stmt := topS 35
theorem scIsReducedIndefinite : FnScope ["form", "a", "b", "_", "root"] ["form"] (defScope sIsReducedIndefinite) := ⟨rfl, rfl, rfl, by decide +kernel, rfl, by decide +kernel, by decide +kernel⟩
abbrev sReduceIndefinite : Stmt := topS 37
theorem scReduceIndefinite : FnScope ["form", "m", "step"] ["form"] (defScope sReduceIndefinite) := ⟨rfl, rfl, rfl, by decide +kernel, rfl, by decide +kernel, by decide +kernel⟩
abbrev sStepNear : Stmt := topS 38
theorem scStepNear : FnScope ["form", "_", "b", "c"] ["form"] (defScope sStepNear) := ⟨rfl, rfl, rfl, by decide +kernel, rfl, by decide +kernel, by decide +kernel⟩
abbrev sStepOf : Stmt := topS 39
theorem scStepOf : FnScope ["form", "_", "b", "c", "root", "b2"] ["form"] (defScope sStepOf) := ⟨rfl, rfl, rfl, by decide +kernel, rfl, by decide +kernel, by decide +kernel⟩
abbrev sCycle : Stmt := topS 40
theorem scCycle : FnScope ["form", "found", "step", "other", "m"] ["form"] (defScope sCycle) := ⟨rfl, rfl, rfl, by decide +kernel, rfl, by decide +kernel, by decide +kernel⟩
abbrev sCanonical : Stmt := topS 41
theorem scCanonical : FnScope ["form", "reduced", "m", "found", "n"] ["form"] (defScope sCanonical) := ⟨rfl, rfl, rfl, by decide +kernel, rfl, by decide +kernel, by decide +kernel⟩
abbrev sZeroLines : Stmt := topS 43
theorem scZeroLines : FnScope ["form", "a", "b", "c", "root"] ["form"] (defScope sZeroLines) := ⟨rfl, rfl, rfl, by decide +kernel, rfl, by decide +kernel, by decide +kernel⟩
abbrev sDirected : Stmt := topS 44
theorem scDirected : FnScope ["x", "y", "g"] ["x", "y"] (defScope sDirected) := ⟨rfl, rfl, rfl, by decide +kernel, rfl, by decide +kernel, by decide +kernel⟩
abbrev sCanonicalSplit : Stmt := topS 45
theorem scCanonicalSplit : FnScope ["form", "first", "second", "m", "_", "k", "c", "step", "point"] ["form"] (defScope sCanonicalSplit) := ⟨rfl, rfl, rfl, by decide +kernel, rfl, by decide +kernel, by decide +kernel⟩
abbrev sFlatParts : Stmt := topS 46
theorem scFlatParts : FnScope ["form", "a", "b", "c", "g", "p"] ["form"] (defScope sFlatParts) := ⟨rfl, rfl, rfl, by decide +kernel, rfl, by decide +kernel, by decide +kernel⟩
abbrev sCanonicalFlat : Stmt := topS 47
theorem scCanonicalFlat : FnScope ["form", "g", "p", "q", "_", "u", "v"] ["form"] (defScope sCanonicalFlat) := ⟨rfl, rfl, rfl, by decide +kernel, rfl, by decide +kernel, by decide +kernel⟩
abbrev sCanonicalForm : Stmt := topS 49
theorem scCanonicalForm : FnScope ["form", "word"] ["form"] (defScope sCanonicalForm) := ⟨rfl, rfl, rfl, by decide +kernel, rfl, by decide +kernel, by decide +kernel⟩
abbrev sClasses : Stmt := topS 51
theorem scClasses : FnScope ["d", "found", "seen", "form", "other", "_"] ["d"] (defScope sClasses) := ⟨rfl, rfl, rfl, by decide +kernel, rfl, by decide +kernel, by decide +kernel⟩
abbrev sReducedForms : Stmt := topS 52
theorem scReducedForms : FnScope ["d", "root", "found", "a", "b", "form"] ["d"] (defScope sReducedForms) := ⟨rfl, rfl, rfl, by decide +kernel, rfl, by decide +kernel, by decide +kernel⟩
abbrev sPrincipal : Stmt := topS 53
theorem scPrincipal : FnScope ["d"] ["d"] (defScope sPrincipal) := ⟨rfl, rfl, rfl, by decide +kernel, rfl, by decide +kernel, by decide +kernel⟩
abbrev sOpposite : Stmt := topS 54
theorem scOpposite : FnScope ["form", "a", "b", "c"] ["form"] (defScope sOpposite) := ⟨rfl, rfl, rfl, by decide +kernel, rfl, by decide +kernel, by decide +kernel⟩
abbrev sCompose : Stmt := topS 55
theorem scCompose : FnScope ["form", "other", "one", "m", "two", "n", "turn", "step", "other_step", "a", "middle", "_", "a2", "last", "found", "back", "upper", "lower", "p", "q", "r", "s"] ["form", "other"] (defScope sCompose) := ⟨rfl, rfl, rfl, by decide +kernel, rfl, by decide +kernel, by decide +kernel⟩
abbrev sUnitingSteps : Stmt := topS 56
theorem scUnitingSteps : FnScope ["form", "other", "a", "b", "_", "a2", "b2", "u", "n"] ["form", "other"] (defScope sUnitingSteps) := ⟨rfl, rfl, rfl, by decide +kernel, rfl, by decide +kernel, by decide +kernel⟩
abbrev sRowBefore : Stmt := topS 57
theorem scRowBefore : FnScope ["row", "m", "n", "p", "q", "r", "s"] ["row", "m", "n"] (defScope sRowBefore) := ⟨rfl, rfl, rfl, by decide +kernel, rfl, by decide +kernel, by decide +kernel⟩
abbrev sSumOfRows : Stmt := topS 58
theorem scSumOfRows : FnScope ["number", "row", "other_number", "other_row", "part", "other_part"] ["number", "row", "other_number", "other_row"] (defScope sSumOfRows) := ⟨rfl, rfl, rfl, by decide +kernel, rfl, by decide +kernel, by decide +kernel⟩
abbrev sClassPower : Stmt := topS 59
theorem scClassPower : FnScope ["form", "many", "half", "whole"] ["form", "many"] (defScope sClassPower) := ⟨rfl, rfl, rfl, by decide +kernel, rfl, by decide +kernel, by decide +kernel⟩
abbrev sClassOrder : Stmt := topS 61
theorem scClassOrder : FnScope ["form", "target", "found", "many"] ["form"] (defScope sClassOrder) := ⟨rfl, rfl, rfl, by decide +kernel, rfl, by decide +kernel, by decide +kernel⟩
abbrev sLawCell : Stmt := topS 63
theorem scLawCell : FnScope ["script", "k"] ["script", "k"] (defScope sLawCell) := ⟨rfl, rfl, rfl, by decide +kernel, rfl, by decide +kernel, by decide +kernel⟩
abbrev sLawNumbers : Stmt := topS 64
theorem scLawNumbers : FnScope ["cell", "many", "rest", "span", "numbers", "k", "mixed"] ["cell", "many"] (defScope sLawNumbers) := ⟨rfl, rfl, rfl, by decide +kernel, rfl, by decide +kernel, by decide +kernel⟩
abbrev sLawState : Stmt := topS 65
theorem scLawState : FnScope ["script", "numbers", "k"] ["script"] (defScope sLawState) := ⟨rfl, rfl, rfl, by decide +kernel, rfl, by decide +kernel, by decide +kernel⟩
abbrev sLawNext : Stmt := topS 66
theorem scLawNext : FnScope ["state", "many", "number"] ["state", "many"] (defScope sLawNext) := ⟨rfl, rfl, rfl, by decide +kernel, rfl, by decide +kernel, by decide +kernel⟩
abbrev sLawRoot : Stmt := topS 68
theorem scLawRoot : FnScope ["n", "low", "high", "k", "middle"] ["n"] (defScope sLawRoot) := ⟨rfl, rfl, rfl, by decide +kernel, rfl, by decide +kernel, by decide +kernel⟩
abbrev sLawMul : Stmt := topS 69
theorem scLawMul : FnScope ["m", "n", "top"] ["m", "n"] (defScope sLawMul) := ⟨rfl, rfl, rfl, by decide +kernel, rfl, by decide +kernel, by decide +kernel⟩
abbrev sLawWorth : Stmt := topS 71
theorem scLawWorth : FnScope ["form", "x", "y"] ["form", "x", "y"] (defScope sLawWorth) := ⟨rfl, rfl, rfl, by decide +kernel, rfl, by decide +kernel, by decide +kernel⟩
abbrev sLawAct : Stmt := topS 72
theorem scLawAct : FnScope ["form", "m", "first", "last"] ["form", "m"] (defScope sLawAct) := ⟨rfl, rfl, rfl, by decide +kernel, rfl, by decide +kernel, by decide +kernel⟩
abbrev sLawChange : Stmt := topS 73
theorem scLawChange : FnScope ["state", "many", "m", "k", "t"] ["state", "many"] (defScope sLawChange) := ⟨rfl, rfl, rfl, by decide +kernel, rfl, by decide +kernel, by decide +kernel⟩
abbrev sLawSquare : Stmt := topS 74
theorem scLawSquare : FnScope ["n"] ["n"] (defScope sLawSquare) := ⟨rfl, rfl, rfl, by decide +kernel, rfl, by decide +kernel, by decide +kernel⟩
abbrev sLaw : Stmt := topS 79
theorem scLaw : FnScope ["script", "state", "d", "menu", "k", "one", "two", "three", "first", "pair", "many", "found", "other", "order", "at"] ["script"] (defScope sLaw) := ⟨rfl, rfl, rfl, by decide +kernel, rfl, by decide +kernel, by decide +kernel⟩
structure Txt (K : PySem.W.Frag) (mg : Str → Option Value) (fa : Nat → Addr) (fd : Nat → FuncData) : Prop where
  F_bezout : Fun K "bezout" "bezout" sBezout (fa 0) (fd 0)
  B_bezout : Binds K (fd 0) ["a", "b"] []
  G_bezout : mg "bezout" = some (.ref (fa 0))
  F_measure : Fun K "measure" "measure" sMeasure (fa 1) (fd 1)
  B_measure : Binds K (fd 1) ["numbers"] []
  G_measure : mg "measure" = some (.ref (fa 1))
  F_floor_root : Fun K "floor_root" "floor_root" sFloorRoot (fa 2) (fd 2)
  B_floor_root : Binds K (fd 2) ["n"] []
  G_floor_root : mg "floor_root" = some (.ref (fa 2))
  F_is_square : Fun K "is_square" "is_square" sIsSquare (fa 3) (fd 3)
  B_is_square : Binds K (fd 3) ["n"] []
  G_is_square : mg "is_square" = some (.ref (fa 3))
  F_power_modulo : Fun K "power_modulo" "power_modulo" sPowerModulo (fa 4) (fd 4)
  B_power_modulo : Binds K (fd 4) ["base", "many", "modulus"] []
  G_power_modulo : mg "power_modulo" = some (.ref (fa 4))
  F_taken_out : Fun K "taken_out" "taken_out" sTakenOut (fa 5) (fd 5)
  B_taken_out : Binds K (fd 5) ["n", "p"] []
  G_taken_out : mg "taken_out" = some (.ref (fa 5))
  F_is_prime : Fun K "is_prime" "is_prime" sIsPrime (fa 6) (fd 6)
  B_is_prime : Binds K (fd 6) ["n"] []
  G_is_prime : mg "is_prime" = some (.ref (fa 6))
  F__behaves_as_prime : Fun K "_behaves_as_prime" "_behaves_as_prime" sBehavesAsPrime (fa 7) (fd 7)
  B__behaves_as_prime : Binds K (fd 7) ["n", "base", "many", "odd"] []
  G__behaves_as_prime : mg "_behaves_as_prime" = some (.ref (fa 7))
  F_prime_parts : Fun K "prime_parts" "prime_parts" sPrimeParts (fa 8) (fd 8)
  B_prime_parts : Binds K (fd 8) ["n"] []
  G_prime_parts : mg "prime_parts" = some (.ref (fa 8))
  F__least_measure : Fun K "_least_measure" "_least_measure" sLeastMeasure (fa 9) (fd 9)
  B__least_measure : Binds K (fd 9) ["n", "start"] []
  G__least_measure : mg "_least_measure" = some (.ref (fa 9))
  F_discriminant : Fun K "discriminant" "discriminant" sDiscriminant (fa 10) (fd 10)
  B_discriminant : Binds K (fd 10) ["form"] []
  G_discriminant : mg "discriminant" = some (.ref (fa 10))
  F_content : Fun K "content" "content" sContent (fa 11) (fd 11)
  B_content : Binds K (fd 11) ["form"] []
  G_content : mg "content" = some (.ref (fa 11))
  F_worth : Fun K "worth" "worth" sWorth (fa 12) (fd 12)
  B_worth : Binds K (fd 12) ["form", "point"] []
  G_worth : mg "worth" = some (.ref (fa 12))
  F_act : Fun K "act" "act" sAct (fa 13) (fd 13)
  B_act : Binds K (fd 13) ["form", "m"] []
  G_act : mg "act" = some (.ref (fa 13))
  F_scaled : Fun K "scaled" "scaled" sScaled (fa 14) (fd 14)
  B_scaled : Binds K (fd 14) ["form", "number"] []
  G_scaled : mg "scaled" = some (.ref (fa 14))
  F_kind : Fun K "kind" "kind" sKind (fa 15) (fd 15)
  B_kind : Binds K (fd 15) ["form"] []
  G_kind : mg "kind" = some (.ref (fa 15))
  F_point_apart : Fun K "point_apart" "point_apart" sPointApart (fa 16) (fd 16)
  B_point_apart : Binds K (fd 16) ["form", "number"] []
  G_point_apart : mg "point_apart" = some (.ref (fa 16))
  F_multiply : Fun K "multiply" "multiply" sMultiply (fa 17) (fd 17)
  B_multiply : Binds K (fd 17) ["m", "n"] []
  G_multiply : mg "multiply" = some (.ref (fa 17))
  F_determinant : Fun K "determinant" "determinant" sDeterminant (fa 18) (fd 18)
  B_determinant : Binds K (fd 18) ["m"] []
  G_determinant : mg "determinant" = some (.ref (fa 18))
  F_negative : Fun K "negative" "negative" sNegative (fa 19) (fd 19)
  B_negative : Binds K (fd 19) ["m"] []
  G_negative : mg "negative" = some (.ref (fa 19))
  F_inverse : Fun K "inverse" "inverse" sInverse (fa 20) (fd 20)
  B_inverse : Binds K (fd 20) ["m"] []
  G_inverse : mg "inverse" = some (.ref (fa 20))
  F_completed : Fun K "completed" "completed" sCompleted (fa 21) (fd 21)
  B_completed : Binds K (fd 21) ["point"] []
  G_completed : mg "completed" = some (.ref (fa 21))
  F_is_reduced_definite : Fun K "is_reduced" "is_reduced" sIsReducedDefinite (fa 22) (fd 22)
  B_is_reduced_definite : Binds K (fd 22) ["form"] []
  G_is_reduced_definite : mg "is_reduced_definite" = some (.ref (fa 22))
  F_reduce_definite : Fun K "reduce_definite" "reduce_definite" sReduceDefinite (fa 23) (fd 23)
  B_reduce_definite : Binds K (fd 23) ["form"] []
  G_reduce_definite : mg "reduce_definite" = some (.ref (fa 23))
  F__step_down : Fun K "_step_down" "_step_down" sStepDown (fa 24) (fd 24)
  B__step_down : Binds K (fd 24) ["form"] []
  G__step_down : mg "_step_down" = some (.ref (fa 24))
  F_positive_classes : Fun K "positive_classes" "positive_classes" sPositiveClasses (fa 25) (fd 25)
  B_positive_classes : Binds K (fd 25) ["d"] []
  G_positive_classes : mg "positive_classes" = some (.ref (fa 25))
  F_is_reduced_indefinite : Fun K "is_reduced" "is_reduced" sIsReducedIndefinite (fa 26) (fd 26)
  B_is_reduced_indefinite : Binds K (fd 26) ["form"] []
  G_is_reduced_indefinite : mg "is_reduced_indefinite" = some (.ref (fa 26))
  F_reduce_indefinite : Fun K "reduce_indefinite" "reduce_indefinite" sReduceIndefinite (fa 27) (fd 27)
  B_reduce_indefinite : Binds K (fd 27) ["form"] []
  G_reduce_indefinite : mg "reduce_indefinite" = some (.ref (fa 27))
  F__step_near : Fun K "_step_near" "_step_near" sStepNear (fa 28) (fd 28)
  B__step_near : Binds K (fd 28) ["form"] []
  G__step_near : mg "_step_near" = some (.ref (fa 28))
  F_step_of : Fun K "step_of" "step_of" sStepOf (fa 29) (fd 29)
  B_step_of : Binds K (fd 29) ["form"] []
  G_step_of : mg "step_of" = some (.ref (fa 29))
  F_cycle : Fun K "cycle" "cycle" sCycle (fa 30) (fd 30)
  B_cycle : Binds K (fd 30) ["form"] []
  G_cycle : mg "cycle" = some (.ref (fa 30))
  F_canonical : Fun K "canonical" "canonical" sCanonical (fa 31) (fd 31)
  B_canonical : Binds K (fd 31) ["form"] []
  G_canonical : mg "canonical" = some (.ref (fa 31))
  F_zero_lines : Fun K "zero_lines" "zero_lines" sZeroLines (fa 32) (fd 32)
  B_zero_lines : Binds K (fd 32) ["form"] []
  G_zero_lines : mg "zero_lines" = some (.ref (fa 32))
  F_directed : Fun K "directed" "directed" sDirected (fa 33) (fd 33)
  B_directed : Binds K (fd 33) ["x", "y"] []
  G_directed : mg "directed" = some (.ref (fa 33))
  F_canonical_split : Fun K "canonical_split" "canonical_split" sCanonicalSplit (fa 34) (fd 34)
  B_canonical_split : Binds K (fd 34) ["form"] []
  G_canonical_split : mg "canonical_split" = some (.ref (fa 34))
  F_flat_parts : Fun K "flat_parts" "flat_parts" sFlatParts (fa 35) (fd 35)
  B_flat_parts : Binds K (fd 35) ["form"] []
  G_flat_parts : mg "flat_parts" = some (.ref (fa 35))
  F_canonical_flat : Fun K "canonical_flat" "canonical_flat" sCanonicalFlat (fa 36) (fd 36)
  B_canonical_flat : Binds K (fd 36) ["form"] []
  G_canonical_flat : mg "canonical_flat" = some (.ref (fa 36))
  F_canonical_form : Fun K "canonical_form" "canonical_form" sCanonicalForm (fa 37) (fd 37)
  B_canonical_form : Binds K (fd 37) ["form"] []
  G_canonical_form : mg "canonical_form" = some (.ref (fa 37))
  F_classes : Fun K "classes" "classes" sClasses (fa 38) (fd 38)
  B_classes : Binds K (fd 38) ["d"] []
  G_classes : mg "classes" = some (.ref (fa 38))
  F__reduced_forms : Fun K "_reduced_forms" "_reduced_forms" sReducedForms (fa 39) (fd 39)
  B__reduced_forms : Binds K (fd 39) ["d"] []
  G__reduced_forms : mg "_reduced_forms" = some (.ref (fa 39))
  F_principal : Fun K "principal" "principal" sPrincipal (fa 40) (fd 40)
  B_principal : Binds K (fd 40) ["d"] []
  G_principal : mg "principal" = some (.ref (fa 40))
  F_opposite : Fun K "opposite" "opposite" sOpposite (fa 41) (fd 41)
  B_opposite : Binds K (fd 41) ["form"] []
  G_opposite : mg "opposite" = some (.ref (fa 41))
  F_compose : Fun K "compose" "compose" sCompose (fa 42) (fd 42)
  B_compose : Binds K (fd 42) ["form", "other"] []
  G_compose : mg "compose" = some (.ref (fa 42))
  F__uniting_steps : Fun K "_uniting_steps" "_uniting_steps" sUnitingSteps (fa 43) (fd 43)
  B__uniting_steps : Binds K (fd 43) ["form", "other"] []
  G__uniting_steps : mg "_uniting_steps" = some (.ref (fa 43))
  F__row_before : Fun K "_row_before" "_row_before" sRowBefore (fa 44) (fd 44)
  B__row_before : Binds K (fd 44) ["row", "m", "n"] []
  G__row_before : mg "_row_before" = some (.ref (fa 44))
  F__sum_of_rows : Fun K "_sum_of_rows" "_sum_of_rows" sSumOfRows (fa 45) (fd 45)
  B__sum_of_rows : Binds K (fd 45) ["number", "row", "other_number", "other_row"] []
  G__sum_of_rows : mg "_sum_of_rows" = some (.ref (fa 45))
  F_class_power : Fun K "class_power" "class_power" sClassPower (fa 46) (fd 46)
  B_class_power : Binds K (fd 46) ["form", "many"] []
  G_class_power : mg "class_power" = some (.ref (fa 46))
  F_class_order : Fun K "class_order" "class_order" sClassOrder (fa 47) (fd 47)
  B_class_order : Binds K (fd 47) ["form"] []
  G_class_order : mg "class_order" = some (.ref (fa 47))
  F__law_cell : Fun K "_law_cell" "_law_cell" sLawCell (fa 48) (fd 48)
  B__law_cell : Binds K (fd 48) ["script", "k"] []
  G__law_cell : mg "_law_cell" = some (.ref (fa 48))
  F__law_numbers : Fun K "_law_numbers" "_law_numbers" sLawNumbers (fa 49) (fd 49)
  B__law_numbers : Binds K (fd 49) ["cell", "many"] []
  G__law_numbers : mg "_law_numbers" = some (.ref (fa 49))
  F__law_state : Fun K "_law_state" "_law_state" sLawState (fa 50) (fd 50)
  B__law_state : Binds K (fd 50) ["script"] []
  G__law_state : mg "_law_state" = some (.ref (fa 50))
  F__law_next : Fun K "_law_next" "_law_next" sLawNext (fa 51) (fd 51)
  B__law_next : Binds K (fd 51) ["state", "many"] []
  G__law_next : mg "_law_next" = some (.ref (fa 51))
  F__law_root : Fun K "_law_root" "_law_root" sLawRoot (fa 52) (fd 52)
  B__law_root : Binds K (fd 52) ["n"] []
  G__law_root : mg "_law_root" = some (.ref (fa 52))
  F__law_mul : Fun K "_law_mul" "_law_mul" sLawMul (fa 53) (fd 53)
  B__law_mul : Binds K (fd 53) ["m", "n"] []
  G__law_mul : mg "_law_mul" = some (.ref (fa 53))
  F__law_worth : Fun K "_law_worth" "_law_worth" sLawWorth (fa 54) (fd 54)
  B__law_worth : Binds K (fd 54) ["form", "x", "y"] []
  G__law_worth : mg "_law_worth" = some (.ref (fa 54))
  F__law_act : Fun K "_law_act" "_law_act" sLawAct (fa 55) (fd 55)
  B__law_act : Binds K (fd 55) ["form", "m"] []
  G__law_act : mg "_law_act" = some (.ref (fa 55))
  F__law_change : Fun K "_law_change" "_law_change" sLawChange (fa 56) (fd 56)
  B__law_change : Binds K (fd 56) ["state", "many"] []
  G__law_change : mg "_law_change" = some (.ref (fa 56))
  F__law_square : Fun K "_law_square" "_law_square" sLawSquare (fa 57) (fd 57)
  B__law_square : Binds K (fd 57) ["n"] []
  G__law_square : mg "_law_square" = some (.ref (fa 57))
  F_law : Fun K "law" "law" sLaw (fa 58) (fd 58)
  B_law : Binds K (fd 58) ["script"] []
  G_law : mg "law" = some (.ref (fa 58))
  g_WITNESSES : mg "WITNESSES" = some (.ref (fa 59))
  S_WITNESSES : ∀ H, SqT K H (fa 59) [.int 2, .int 3, .int 5, .int 7, .int 11, .int 13, .int 17, .int 19, .int 23, .int 29, .int 31, .int 37]
  g_UNIT : mg "UNIT" = some (.ref (fa 60))
  S_UNIT : ∀ H, SqT K H (fa 60) [.int 1, .int 0, .int 0, .int 1]
  m_abs : mg "abs" = none
  m_int : mg "int" = none
  m_len : mg "len" = none
  m_max : mg "max" = none
  m_min : mg "min" = none
  m_range : mg "range" = none
  m_set : mg "set" = none
  m_tuple : mg "tuple" = none
  m_zip : mg "zip" = none
  g_gcd : mg "gcd" = some (.builtin "math.gcd")
  g_isqrt : mg "isqrt" = some (.builtin "math.isqrt")

/-! ### heaps, draws -/
theorem same_upd {H : Hp} {p : Addr} {o : HO} (h : H p = none) : Same H (upd H p o) := fun b x e => by
  rw [upd_ne (ne_of_none e h)]
  exact e
theorem same_mut {H0 H : Hp} {p : Addr} {o : HO} (s : Same H0 H) (h : H0 p = none) : Same H0 (upd H p o) := fun b x e => by
  rw [upd_ne (ne_of_none e h)]
  exact s _ _ e
theorem same_off {H H' : Hp} {p : Addr} {o : HO} {q : Addr} (f : ∀ b, b ≠ p → H' b = H b) (n : q ≠ p) (h : H q = some o) : H' q = some o := by
  rw [f q n]
  exact h
/-- the state of the draws: the list at p, its numbers at a, at most N draws so far -/
def Dw (H : Hp) (p a : Addr) (N : Nat) : Prop := ∃ (m : Nat) (ns : List Int), m ≤ N ∧ a ≠ p ∧ H p = some (.lst [.ref a, .int (m : Int)]) ∧ H a = some (.lst (ns.map V.int)) ∧ ns.length = 120 ∧ ∀ n ∈ ns, 0 ≤ n ∧ n < 1000
theorem Dw.same {H H' : Hp} {p a : Addr} {N : Nat} (s : Same H H') (d : Dw H p a N) : Dw H' p a N := by
  obtain ⟨m, ns, h1, h2, h3, h4, h5⟩ := d
  exact ⟨m, ns, h1, h2, s _ _ h3, s _ _ h4, h5⟩
theorem Dw.mono {H : Hp} {p a : Addr} {N M : Nat} (d : Dw H p a N) (h : N ≤ M) : Dw H p a M := by
  obtain ⟨m, ns, h1, h2⟩ := d
  exact ⟨m, ns, Nat.le_trans h1 h, h2⟩
theorem Dw.new {H : Hp} {p a q : Addr} {o : HO} {N : Nat} (d : Dw H p a N) (h : H q = none) : Dw (upd H q o) p a N := d.same (same_upd h)
theorem Dw.ne {H : Hp} {p a q : Addr} {N : Nat} (d : Dw H p a N) (h : H q = none) : q ≠ p ∧ q ≠ a := by
  obtain ⟨m, ns, h1, h2, h3, h4, h5⟩ := d
  exact ⟨(ne_of_none h3 h).symm, (ne_of_none h4 h).symm⟩
theorem Dw.mut {H : Hp} {p a q : Addr} {o : HO} {N : Nat} (d : Dw H p a N) (hp : q ≠ p) (ha : q ≠ a) : Dw (upd H q o) p a N := by
  obtain ⟨m, ns, h1, h2, h3, h4, h5⟩ := d
  exact ⟨m, ns, h1, h2, by rw [upd_ne hp.symm]; exact h3, by rw [upd_ne ha.symm]; exact h4, h5⟩
theorem at_mem {α : Type} {xs : List α} {r : Int} (h0 : 0 ≤ r) (h1 : r < xs.length) : ∃ v, v ∈ xs ∧ atI xs r = some v := by
  obtain ⟨j, rfl⟩ := Int.eq_ofNat_of_zero_le h0
  have hj : j < xs.length := by omega
  exact ⟨xs[j], List.getElem_mem hj, atI_nat (List.getElem?_eq_getElem hj)⟩
theorem at_int {ns : List Int} {r : Int} (h0 : 0 ≤ r) (h1 : r < ns.length) : ∃ n ∈ ns, atI (ns.map V.int) r = some (.int n) := by
  obtain ⟨v, hv, e⟩ := at_mem (xs := ns.map V.int) h0 (by rw [List.length_map]; exact h1)
  obtain ⟨n, hn, rfl⟩ := List.mem_map.mp hv
  exact ⟨n, hn, e⟩
theorem pow_ok {i j : Int} (h : 0 ≤ j ∧ j ≤ 1000000 ∧ i.natAbs < 2 ^ 64) : CPow i j := h
theorem wayF {c A B : Prop} [Decidable c] (h : ¬ c) (b : B) : if decide c = true then A else B := by
  rw [if_neg (fun z => h (of_decide_eq_true z))]
  exact b
theorem wayT {c A B : Prop} [Decidable c] (h : c) (a : A) : if decide c = true then A else B := by
  rw [if_pos (decide_eq_true h)]
  exact a
theorem wayNF {c A B : Prop} [Decidable c] (h : c) (b : B) : if (!decide c) = true then A else B := by
  rw [decide_eq_true h]
  exact iteF b
theorem wayNT {c A B : Prop} [Decidable c] (h : ¬ c) (a : A) : if (!decide c) = true then A else B := by
  rw [decide_eq_false h]
  exact iteT a
theorem way2 {c A B : Prop} [Decidable c] (h1 : c → A) (h2 : ¬ c → B) : if decide c = true then A else B := by
  by_cases h : c
  · exact wayT h (h1 h)
  · exact wayF h (h2 h)
theorem wayN2 {c A B : Prop} [Decidable c] (h1 : ¬ c → A) (h2 : c → B) : if (!decide c) = true then A else B := by
  by_cases h : c
  · exact wayNF h (h2 h)
  · exact wayNT h (h1 h)
theorem abs_int (i : Int) : (if i < 0 then -i else i) = (i.natAbs : Int) := by
  split <;> omega
theorem small200 {n : Nat} (h : n ≤ 1000) : n ≤ sizeLine := Nat.le_of_lt (small1000 h)
/-! ### data: == of lists and tuples -/
theorem dp_ints {K : PySem.W.Frag} {H : Hp} : ∀ ns : List Int, DpAll K H (ns.map V.int) (ns.map PyData.int)
  | [] => .nil
  | n :: ns => .cons (.int n) (dp_ints ns)
theorem lay_ints : ∀ ns : List Int, PyData.canLayAll0 (ns.map PyData.int) = true
  | [] => rfl
  | n :: ns => by
    rw [List.map_cons, PyData.canLayAll0, lay_ints ns]
    rfl
theorem depth_ints : ∀ ns : List Int, PyData.depthAll (ns.map PyData.int) = 0
  | [] => rfl
  | n :: ns => by
    rw [List.map_cons, PyData.depthAll, depth_ints ns]
    rfl
theorem shaped_ints (ns : List Int) : SeqAt.shaped (.list (ns.map PyData.int)) = true := by
  show (PyData.canLay0 (.list (ns.map PyData.int)) && decide (PyData.depth (.list (ns.map PyData.int)) ≤ 64)) = true
  rw [Bool.and_eq_true]
  refine ⟨by rw [PyData.canLay0]; exact lay_ints ns, decide_eq_true ?_⟩
  rw [PyData.depth, depth_ints]
  decide
theorem shaped_intsT (ns : List Int) : SeqAt.shaped (.tuple (ns.map PyData.int)) = true := by
  show (PyData.canLay0 (.tuple (ns.map PyData.int)) && decide (PyData.depth (.tuple (ns.map PyData.int)) ≤ 64)) = true
  rw [Bool.and_eq_true]
  refine ⟨by rw [PyData.canLay0]; exact lay_ints ns, decide_eq_true ?_⟩
  rw [PyData.depth, depth_ints]
  decide
theorem eqD_same {K : PySem.W.Frag} {H : Hp} {x y : V} {Q : VK} {d : PyData} (hx : Dp K H x d) (hy : Dp K H y d) (sh : SeqAt.shaped d = true) (q : Q (.bl true) H) : rEqD K x y H Q :=
  ⟨d, d, hx, hy, sh, sh, by rw [SeqAt.eqv_refl d (SeqAt.canLay_of_shaped sh)]; exact q⟩
theorem neD_same {K : PySem.W.Frag} {H : Hp} {x y : V} {Q : VK} {d : PyData} (hx : Dp K H x d) (hy : Dp K H y d) (sh : SeqAt.shaped d = true) (q : Q (.bl false) H) : rNeD K x y H Q :=
  ⟨d, d, hx, hy, sh, sh, by rw [SeqAt.eqv_refl d (SeqAt.canLay_of_shaped sh)]; exact q⟩
/-! ### slices -/
theorem cut_to (ns : List Int) (k : Nat) : cutV (ns.map V.int) none (some (k : Int)) = (ns.take k).map V.int := by
  unfold cutV
  rw [HT.sIx_none, HT.sIx_nat, List.drop_zero, List.map_take, Nat.sub_zero, List.length_map]
  by_cases h : k ≤ ns.length
  · rw [Nat.min_eq_left h]
  · rw [Nat.min_eq_right (by omega), List.take_of_length_le (by rw [List.length_map]; omega), List.take_of_length_le (by rw [List.length_map]; omega)]
theorem cut_from (xs : List V) (k : Nat) : cutV xs (some (k : Int)) none = xs.drop k := by
  unfold cutV
  rw [HT.sIx_none, HT.sIx_nat]
  by_cases h : k ≤ xs.length
  · rw [Nat.min_eq_left h, List.take_of_length_le (by rw [List.length_drop]; omega)]
  · rw [Nat.min_eq_right (by omega), List.drop_of_length_le (by omega), List.drop_of_length_le (by omega)]
    exact List.take_nil
theorem isiF {K : PySem.W.Frag} {H : Hp} {i : Int} {Q : VK} (q : Q (.bl false) H) : rIsi K [.int i, .ty "bool"] H Q := ⟨_, _, _, _, false, rfl, ClsV.ty _, TyX.base (.int i), kit_ty (by decide +kernel), q⟩
theorem isiT {K : PySem.W.Frag} {H : Hp} {b : Bool} {Q : VK} (q : Q (.bl true) H) : rIsi K [.bl b, .ty "bool"] H Q := ⟨_, _, _, _, true, rfl, ClsV.ty _, TyX.base (.bl b), kit_ty (by decide +kernel), q⟩
theorem isiTup {K : PySem.W.Frag} {H : Hp} {a : Addr} {xs : List V} {Q : VK} (h : H a = some (.tup xs)) (q : Q (.bl true) H) : rIsi K [.ref a, .ty "tuple"] H Q := ⟨_, _, _, _, true, rfl, ClsV.ty _, TyX.base (.tup h), kit_ty (by decide +kernel), q⟩
theorem isiLst {K : PySem.W.Frag} {H : Hp} {a : Addr} {xs : List V} {Q : VK} (h : H a = some (.lst xs)) (q : Q (.bl true) H) : rIsi K [.ref a, .ty "list"] H Q := ⟨_, _, _, _, true, rfl, ClsV.ty _, TyX.base (.lst h), kit_ty (by decide +kernel), q⟩
/-! ### rules with the written part named -/
section
variable {X : Cx}
def rLenQ (K : PySem.W.Frag) : List V → Hp → VK → Prop := fun xs H Q => ∃ p ys, xs = [.ref p] ∧ (SqL K H p ys ∨ SqT K H p ys) ∧ Q (.int ys.length) H
def rListQ (K : PySem.W.Frag) : List V → Hp → VK → Prop := fun xs H Q => ∃ p ys, xs = [.ref p] ∧ (SqL K H p ys ∨ SqT K H p ys) ∧ ∀ l, H l = none → Q (.ref l) (upd H l (.lst ys))
def rTupQ (K : PySem.W.Frag) : List V → Hp → VK → Prop := fun xs H Q => ∃ p ys, xs = [.ref p] ∧ ((SqL K H p ys ∧ ∀ l, H l = none → Q (.ref l) (upd H l (.tup ys))) ∨ (SqT K H p ys ∧ Q (.ref p) H))
theorem ixL (K : PySem.W.Frag) (h : X.K = K := by rfl) : IxR X (rIxL K) := by subst h; exact ix_list
theorem ixT (K : PySem.W.Frag) (h : X.K = K := by rfl) : IxR X (rIxT K) := by subst h; exact ix_tup
theorem slL (K : PySem.W.Frag) (h : X.K = K := by rfl) : SlR X (rSlL K) := by subst h; exact sl_list
theorem slT (K : PySem.W.Frag) (h : X.K = K := by rfl) : SlR X (rSlT K) := by subst h; exact sl_tup
theorem lenQ (K : PySem.W.Frag) (h : X.K = K := by rfl) : CallR X (.builtin "len") (rLenQ K) := by subst h; exact call_len_seq
theorem listQ (K : PySem.W.Frag) (h : X.K = K := by rfl) : CallR X (.type "list") (rListQ K) := by subst h; exact call_list_of
theorem tupQ (K : PySem.W.Frag) (h : X.K = K := by rfl) : CallR X (.type "tuple") (rTupQ K) := by subst h; exact call_tuple_of
theorem isiQ (K : PySem.W.Frag) (h : X.K = K := by rfl) : CallR X (.builtin "isinstance") (rIsi K) := by subst h; exact call_isi
theorem eqDQ (K : PySem.W.Frag) (hu : X.A.units + 64 < cLine) (h : X.K = K := by rfl) : OpR X (compareOp .Eq) (rEqD K) := by subst h; exact op_eqD hu
theorem neDQ (K : PySem.W.Frag) (hu : X.A.units + 64 < cLine) (h : X.K = K := by rfl) : OpR X (compareOp .NotEq) (rNeD K) := by subst h; exact op_neD hu
theorem piL (K : PySem.W.Frag) {tg l : Expr} {tl : TE} (hl : PE X l tl) (h : X.K = K := by rfl) : PI X tg l (iList K tl) := by subst h; exact pi_list hl
theorem piT (K : PySem.W.Frag) {tg l : Expr} {tl : TE} (hl : PE X l tl) (h : X.K = K := by rfl) : PI X tg l (iTup K tl) := by subst h; exact pi_tup hl
theorem inQ (K : PySem.W.Frag) (h : X.K = K := by rfl) : OpR X (compareOp .In) (rIn K false) := by subst h; exact op_in_seq
theorem notInQ (K : PySem.W.Frag) (h : X.K = K := by rfl) : OpR X (compareOp .NotIn) (rIn K true) := by subst h; exact op_notIn_seq
end
/-! ### great numbers -/
section
variable {X : Cx}
/-- // by any divisor below 2 ^ 9000 -/
def CDivX (_ j : Int) : Prop := j ≠ 0 ∧ j.natAbs < 2 ^ 9000
theorem op_fdivX : OpR X (binaryOp .FloorDiv) (rI CDivX fun i j => .int (i.fdiv j)) := opI fun i j _ _ _ _ _ hc q =>
  floordiv_int hc.1 q (.inl (PyProof.noPylong_of_log2 (PySem.Flt.log2_lt_of (by decide) hc.2)))
end
theorem pow_up {n a b : Nat} (h : n < 2 ^ a) (hab : a ≤ b) : n < 2 ^ b := Nat.lt_of_lt_of_le h (Nat.pow_le_pow_right (by decide) hab)

/-! ### bounds by powers of two -/
def Bd (n : Nat) (x : Int) : Prop := x.natAbs < 2 ^ n
theorem Bd.mono {n m : Nat} {x : Int} (h : Bd n x) (l : n ≤ m) : Bd m x := Nat.lt_of_lt_of_le h (Nat.pow_le_pow_right (by decide) l)
theorem Bd.mul {n m : Nat} {x y : Int} (h1 : Bd n x) (h2 : Bd m y) : Bd (n + m) (x * y) := wide_lt h1 h2
theorem Bd.add {n m : Nat} {x y : Int} (h1 : Bd n x) (h2 : Bd m y) : Bd (max n m + 1) (x + y) := by
  have a1 := h1.mono (Nat.le_max_left n m)
  have a2 := h2.mono (Nat.le_max_right n m)
  unfold Bd at *
  rw [Nat.pow_succ]
  omega
theorem Bd.neg {n : Nat} {x : Int} (h : Bd n x) : Bd n (-x) := by
  unfold Bd at *
  rw [Int.natAbs_neg]
  exact h
theorem Bd.sub {n m : Nat} {x y : Int} (h1 : Bd n x) (h2 : Bd m y) : Bd (max n m + 1) (x - y) := by
  have h := h1.add h2.neg
  rw [← Int.sub_eq_add_neg] at h
  exact h
theorem Bd.l8 {x : Int} (h : (x.natAbs < 2 ^ 8) = True) : Bd 8 x := of_eq_true h
theorem Bd.lit {x : Int} (h : (x.natAbs < 2 ^ 64) = True) : Bd 64 x := of_eq_true h
theorem Bd.om {x : Int} (h : x.natAbs < 1152921504606846976) : Bd 60 x := h
theorem Bd.fdiv {n : Nat} {x y : Int} (h : Bd n x) : Bd n (x.fdiv y) := by
  unfold Bd at *
  exact Nat.lt_of_le_of_lt (Int.natAbs_fdiv_le_natAbs x y) h
theorem Bd.mod {n : Nat} {x y : Int} (h : Bd n y) (hy : y ≠ 0) : Bd n (x % y) := by
  unfold Bd at *
  have h0 := Int.emod_nonneg x hy
  have h1 := Int.emod_lt x hy
  omega
theorem Bd.abs {n : Nat} {x : Int} (h : Bd n x) : Bd n (x.natAbs : Int) := by
  unfold Bd at *
  rw [Int.natAbs_natCast]
  exact h
theorem Bd.div {n : Nat} {x y : Int} (h : Bd n x) : Bd n (x / y) := by
  unfold Bd at *
  exact Nat.lt_of_le_of_lt (Int.natAbs_ediv_le_natAbs x y) h
theorem bdm {n m : Nat} {x : Int} (h : Bd n x) (l : Nat.ble n m = true) : Bd m x := h.mono (Nat.le_of_ble_eq_true l)
theorem Bd.of {n : Nat} {x : Int} {m : Nat} (h : x.natAbs ≤ m) (l : m < 2 ^ n) : Bd n x := Nat.lt_of_le_of_lt h l
theorem Bd.mulW {n m : Nat} {x y : Int} (h1 : Bd n x) (h2 : Bd m y) (l : n + m ≤ 900000) : CMulW x y :=
  wide_mul (a := n + 1) (b := m + 1) (h1.mono (Nat.le_succ n)) (h2.mono (Nat.le_succ m)) (Nat.succ_pos n) (Nat.succ_pos m) (by omega)
theorem Bd.x4 {n m : Nat} {x y : Int} (h1 : Bd n x) (l : n ≤ m) (h : y = x) : Bd m y := h ▸ h1.mono l
/-! ### heaps -/
theorem same_seqT {K : PySem.W.Frag} {H H' : Hp} {a : Addr} {xs : List V} (e : Same H H') (h : SqT K H a xs) : SqT K H' a xs := by
  rcases h with (h | ⟨o, h⟩) | h
  · exact .inl (.inl (e _ _ h))
  · exact .inl (.inr ⟨o, e _ _ h⟩)
  · exact .inr h
/-- tuples stay -/
def KT (K : PySem.W.Frag) (H H' : Hp) : Prop := ∀ a xs, SqT K H a xs → SqT K H' a xs
/-- all but p stays -/
def Frm (p : Addr) (H H' : Hp) : Prop := ∀ b, b ≠ p → H' b = H b
/-- all that was tracked, but p, stays -/
def Kp (p : Addr) (H H' : Hp) : Prop := ∀ b o, b ≠ p → H b = some o → H' b = some o
theorem same_kt {K : PySem.W.Frag} {H H' : Hp} (e : Same H H') : KT K H H' := fun _ _ h => same_seqT e h
theorem same_kp {p : Addr} {H H' : Hp} (e : Same H H') : Kp p H H' := fun b o _ h => e b o h
theorem frm_kp {p : Addr} {H H' : Hp} (f : Frm p H H') : Kp p H H' := fun b o n h => (f b n).trans h
theorem Kp.refl {p : Addr} {H : Hp} : Kp p H H := fun b o _ h => h
theorem Kp.trans {p : Addr} {H H1 H2 : Hp} (a : Kp p H H1) (b : Kp p H1 H2) : Kp p H H2 := fun c o n h => b c o n (a c o n h)
theorem KT.trans {K : PySem.W.Frag} {H H1 H2 : Hp} (a : KT K H H1) (b : KT K H1 H2) : KT K H H2 := fun c xs h => b c xs (a c xs h)
theorem KT.refl {K : PySem.W.Frag} {H : Hp} : KT K H H := fun _ _ h => h
theorem kpB {p : Addr} {H H1 H' : Hp} (e : Kp p H1 H') (s : Kp p H H1) : Kp p H H' := s.trans e
theorem sameB {H H1 H' : Hp} (e : Same H1 H') (s : Same H H1) : Same H H' := s.trans e
theorem same_at {H H' : Hp} {a : Addr} {o : HO} (e : Same H H') (h : H a = some o) : H' a = some o := e _ _ h
theorem kp_at {p : Addr} {H H' : Hp} {a : Addr} {o : HO} (e : Kp p H H') (n : a ≠ p) (h : H a = some o) : H' a = some o := e _ _ n h
theorem KT.use {K : PySem.W.Frag} {H H' : Hp} {a : Addr} {xs : List V} (e : KT K H H') (h : SqT K H a xs) : SqT K H' a xs := e a xs h
theorem Kp.kt {K : PySem.W.Frag} {H H' : Hp} {p a : Addr} {N : Nat} (f : Kp p H H') (d : Dw H p a N) : KT K H H' := fun c xs h => by
  obtain ⟨m, ns, h1, h2, h3, h4⟩ := d
  rcases h with (h | ⟨o, h⟩) | h
  · refine .inl (.inl (f c _ ?_ h))
    rintro rfl
    rw [h3] at h
    cases h
  · refine .inl (.inr ⟨o, f c _ ?_ h⟩)
    rintro rfl
    rw [h3] at h
    cases h
  · exact .inr h
theorem kp_seqT {K : PySem.W.Frag} {H H' : Hp} {p a b : Addr} {N : Nat} {xs : List V} (f : Kp p H H') (d : Dw H p a N) (h : SqT K H b xs) : SqT K H' b xs := f.kt d b xs h
theorem Kp.seqL {K : PySem.W.Frag} {p : Addr} {H H' : Hp} {a : Addr} {xs : List V} (f : Kp p H H') (n : a ≠ p) (h : SqL K H a xs) : SqL K H' a xs := by
  rcases h with (h | ⟨o, h⟩) | h
  · exact .inl (.inl (f _ _ n h))
  · exact .inl (.inr ⟨o, f _ _ n h⟩)
  · exact .inr h
theorem Dw.kp0 {H : Hp} {p a q : Addr} {o : HO} (h : H q = none) : Kp p H (upd H q o) := same_kp (same_upd h)
theorem fresh_ne {H : Hp} {o p a : Addr} {N : Nat} (h : H o = none) (d : Dw H p a N) : o ≠ p := (d.ne h).1
section
variable {X : Cx}
def rAbs (_ : PySem.W.Frag) : List V → Hp → VK → Prop := fun xs H Q => ∃ i : Int, xs = [.int i] ∧ Q (.int (i.natAbs : Int)) H
def rInt (_ : PySem.W.Frag) : List V → Hp → VK → Prop := fun xs H Q => (∃ i : Int, xs = [.int i] ∧ Q (.int i) H) ∨ ∃ k : Bool, xs = [.bl k] ∧ Q (.int (if k then 1 else 0)) H
theorem absQ (K : PySem.W.Frag) : CallR X (.builtin "abs") (rAbs K) := by
  intro pins s σ H xs us Q I r h
  obtain ⟨i, e, q⟩ := h
  exact call_abs pins s σ H xs us Q I r ⟨i, e, by rw [abs_int]; exact q⟩
theorem intQ (K : PySem.W.Frag) : CallR X (.type "int") (rInt K) := call_int1
theorem minQ (K : PySem.W.Frag) (hc : X.calm = true := by rfl) (h : X.K = K := by rfl) : CallR X (.builtin "min") (rMin K) := by
  subst h
  exact cr_min hc
theorem pgT (K : PySem.W.Frag) (n : Nat) {es : List Expr} {k : Nat} {pos : Pos} {t : TGs} (hc : X.calm = true) (h : PGs X es t) (hn : (assignEach es X.env).length = n := by rfl) (hst : (assignEach es X.env).findIdx? (·.1) = none := by rfl) (hK : X.K = K := by rfl) : PG X (.Tuple es k pos) (gTup K n t) := by
  subst hK
  exact pg_tup hc h hn hst
end
namespace R
section
variable {K : PySem.W.Frag} {σ : L2.St} {H : Hp} {Q : VK} {ta tb te : TE} {v x y : V} {i j : Int}
theorem var {n : Nat} (h : σ[n]? = some (some v)) (q : Q v H) : tVar n σ H Q := ⟨v, h, q⟩
theorem con (q : Q v H) : tC v σ H Q := q
theorem op {r : R2} (h : ta σ H fun x H1 => tb σ H1 fun y H2 => r x y H2 Q) : tOp r ta tb σ H Q := h
theorem un {r : V → Hp → VK → Prop} (h : ta σ H fun x H1 => r x H1 Q) : tUn r ta σ H Q := h
theorem i0 {g : Int → Int → V} (q : Q (g i j) H) : rI0 g (.int i) (.int j) H Q := ⟨i, j, rfl, rfl, q⟩
theorem i2 {C : Int → Int → Prop} {g : Int → Int → V} (c : C i j) (q : Q (g i j) H) : rI C g (.int i) (.int j) H Q := ⟨i, j, rfl, rfl, c, q⟩
theorem u1 {g : Int → V} (q : Q (g i) H) : rU g (.int i) H Q := ⟨i, rfl, q⟩
theorem ixT {p : Addr} {xs : List V} (h : SqT K H p xs) (e : atI xs i = some v) (q : Q v H) : rIxT K (.ref p) (.int i) H Q := ⟨p, xs, i, v, rfl, rfl, h, e, q⟩
theorem ixL {p : Addr} {xs : List V} (h : SqL K H p xs) (e : atI xs i = some v) (q : Q v H) : rIxL K (.ref p) (.int i) H Q := ⟨p, xs, i, v, rfl, rfl, h, e, q⟩
theorem nil {Q : List V → Hp → Prop} (q : Q [] H) : tNil σ H Q := q
theorem cons {tr : TA} {Q : List V → Hp → Prop} (h : ta σ H fun x H1 => tr σ H1 fun xs H2 => Q (x :: xs) H2) : tCons ta tr σ H Q := h
/-- what is wanted of a new tuple, a new list -/
def NwT (H : Hp) (xs : List V) (Q : VK) : Prop := xs.length ≤ sizeLine ∧ ∀ p, H p = none → Q (.ref p) (upd H p (.tup xs))
def NwL (H : Hp) (xs : List V) (Q : VK) : Prop := xs.length ≤ sizeLine ∧ ∀ p, H p = none → Q (.ref p) (upd H p (.lst xs))
def Nw (H : Hp) (xs : List V) (Q : VK) : Prop := ∀ H' t, Same H H' → H' t = some (.tup xs) → Q (.ref t) H'
theorem nw {xs : List V} (h : ∀ H' t, Same H H' → H' t = some (.tup xs) → Q (.ref t) H') : Nw H xs Q := h
def Mt (H : Hp) (xs : List V) (Q : VK) : Prop := ∀ H' p, Same H H' → H p = none → H' p = some (.tup xs) → Q (.ref p) H'
def Ml (H : Hp) (xs : List V) (Q : VK) : Prop := ∀ H' p, Same H H' → H p = none → H' p = some (.lst xs) → Q (.ref p) H'
theorem mt {xs : List V} (h : ∀ H' p, Same H H' → H p = none → H' p = some (.tup xs) → Q (.ref p) H') : Mt H xs Q := h
theorem ml {xs : List V} (h : ∀ H' p, Same H H' → H p = none → H' p = some (.lst xs) → Q (.ref p) H') : Ml H xs Q := h
theorem tup {t : TA} (h : t σ H fun xs H1 => NwT H1 xs Q) : tTup t σ H Q := h
theorem lst {t : TA} (h : t σ H fun xs H1 => NwL H1 xs Q) : tLst t σ H Q := h
theorem nwT {xs : List V} (l : Nat.ble xs.length 1000 = true) (q : Mt H xs Q) : NwT H xs Q :=
  ⟨Nat.le_of_lt (small1000 (Nat.le_of_ble_eq_true l)), fun p n => q _ p (same_upd n) n upd_same⟩
theorem nwL {xs : List V} (l : Nat.ble xs.length 1000 = true) (q : Ml H xs Q) : NwL H xs Q :=
  ⟨Nat.le_of_lt (small1000 (Nat.le_of_ble_eq_true l)), fun p n => q _ p (same_upd n) n upd_same⟩
theorem call {sp : Sp} {dvs : List V} {E : XK} {t : TA} (h : t σ H fun vs H1 => sp (vs ++ dvs) H1 Q E) : tCall sp dvs E t σ H Q := h
theorem callB {r : List V → Hp → VK → Prop} {t : TA} (h : t σ H fun vs H1 => r vs H1 Q) : tCB r t σ H Q := h
theorem gname {n : Nat} {Q : L2.St → Hp → Prop} (h : Q (σ.set n (some v)) H) : gName n v σ H Q := h
theorem gtup {n : Nat} {t : TGs} {a : Addr} {xs : List V} {Q : L2.St → Hp → Prop} (h1 : SqT K H a xs) (h2 : xs.length = n) (h : t xs σ H Q) : gTup K n t (.ref a) σ H Q := ⟨a, xs, rfl, h1, h2, h⟩
theorem gcons {t : TG} {u : TGs} {r : List V} {Q : L2.St → Hp → Prop} (h : t v σ H fun σ' H' => u r σ' H' Q) : gCons t u (v :: r) σ H Q := ⟨v, r, rfl, h⟩
theorem gnil {Q : L2.St → Hp → Prop} (h : Q σ H) : gNil [] σ H Q := ⟨rfl, h⟩
variable {nx : L2.St → Hp → Prop} {rt : VK} {bk ct : L2.St → Hp → Prop} {t u : TS} {c : TT}
theorem seq (h : t (Ends.mk (u (Ends.mk nx rt bk ct)) rt bk ct) σ H) : tSeq t u (Ends.mk nx rt bk ct) σ H := h
theorem asg {g : TG} (h : te σ H fun x H1 => g x σ H1 nx) : tAsg te g (Ends.mk nx rt bk ct) σ H := h
theorem brk (h : bk σ H) : tBreak (Ends.mk nx rt bk ct) σ H := h
theorem cont (h : ct σ H) : tCont (Ends.mk nx rt bk ct) σ H := h
theorem ret (h : te σ H rt) : tRet te (Ends.mk nx rt bk ct) σ H := h
theorem next (h : nx σ H) : tNext (Ends.mk nx rt bk ct) σ H := h
theorem drop (h : te σ H fun _ H1 => nx σ H1) : tDrop te (Ends.mk nx rt bk ct) σ H := h
theorem par {i j : Nat} {ta : TA} (h : ta σ H fun vs H1 => ∃ v w, vs = [v, w] ∧ nx ((σ.set i (some v)).set j (some w)) H1) : tPar i j ta (Ends.mk nx rt bk ct) σ H := h
theorem par3 {i j l : Nat} {ta : TA} (h : ta σ H fun vs H1 => ∃ u v w, vs = [u, v, w] ∧ nx (((σ.set i (some u)).set j (some v)).set l (some w)) H1) : tPar3 i j l ta (Ends.mk nx rt bk ct) σ H := h
theorem par4 {z : V} {P : V → V → V → Prop} (h : P x y z) : ∃ u v w, [x, y, z] = [u, v, w] ∧ P u v w := ⟨x, y, z, rfl, h⟩
theorem par2 {P : V → V → Prop} (h : P x y) : ∃ v w, [x, y] = [v, w] ∧ P v w := ⟨x, y, rfl, h⟩
theorem ifs (h : c σ H fun b H1 => if b = true then t (Ends.mk nx rt bk ct) σ H1 else u (Ends.mk nx rt bk ct) σ H1) : tIfS c t u (Ends.mk nx rt bk ct) σ H := h
theorem tif (h : c σ H fun b H1 => if b = true then ta σ H1 Q else tb σ H1 Q) : tIf c ta tb σ H Q := h
theorem test {Q : Bool → Hp → Prop} (h : te σ H fun x H' => ∃ k, x = .bl k ∧ Q k H') : tTest te σ H Q := h
theorem tb' {Q : Bool → Hp → Prop} (h : te σ H fun x H' => ∃ k, x = .bl k ∧ Q k H') : tB te σ H Q := h
theorem isbl {b : Bool} {P : Bool → Prop} (h : P b) : ∃ k, V.bl b = .bl k ∧ P k := ⟨b, rfl, h⟩
theorem cmp {p : Int → Int → Bool} (h : t2I ta tb (fun i j H2 => Q (.bl (p i j)) H2) σ H) : tCmp p ta tb σ H Q := h
theorem t2i {k : Int → Int → Hp → Prop} (h : ta σ H fun x H1 => tb σ H1 fun y H2 => ∃ i j, x = .int i ∧ y = .int j ∧ k i j H2) : t2I ta tb k σ H := h
theorem intp {k : Int → Int → Prop} (h : k i j) : ∃ a b : Int, V.int i = .int a ∧ V.int j = .int b ∧ k a b := ⟨i, j, rfl, rfl, h⟩
theorem cut {Mid : L2.St → Hp → Prop} (h1 : t (Ends.mk Mid rt bk ct) σ H) (h2 : ∀ σ' H', Mid σ' H' → u (Ends.mk nx rt bk ct) σ' H') : C8.tCut t u (Ends.mk nx rt bk ct) σ H := ⟨Mid, h1, h2⟩
variable {d : TT}
theorem and {Q : Bool → Hp → Prop} (h : c σ H fun k H1 => if k = true then d σ H1 Q else Q false H1) : tAnd c d σ H Q := h
theorem or {Q : Bool → Hp → Prop} (h : c σ H fun k H1 => if k = true then Q true H1 else d σ H1 Q) : tOr c d σ H Q := h
theorem not {Q : Bool → Hp → Prop} (h : c σ H fun k H1 => Q (!k) H1) : tNot c σ H Q := h
theorem andV (h : ta σ H fun x H1 => ∃ c, x = .bl c ∧ if c = true then tb σ H1 Q else Q (.bl false) H1) : tAndV ta tb σ H Q := h
theorem orV (h : ta σ H fun x H1 => ∃ c, x = .bl c ∧ if c = true then Q (.bl true) H1 else tb σ H1 Q) : tOrV ta tb σ H Q := h
theorem notV (h : ta σ H fun x H1 => ∃ c, x = .bl c ∧ Q (.bl (!c)) H1) : tNotV ta σ H Q := h
theorem chain {r r' : R2} {tc : TE} (h : ta σ H fun x H1 => tb σ H1 fun y H2 => r x y H2 fun z H3 => ∃ k, z = .bl k ∧ (if k = true then tc σ H3 fun w' H4 => r' y w' H4 Q else Q (.bl false) H3)) : tChain r r' ta tb tc σ H Q := h
theorem tupL {p : Addr} {ys : List V} (h : SqL K H p ys) (q : Mt H ys Q) : rTupQ K [.ref p] H Q := ⟨p, ys, rfl, .inl ⟨h, fun l n => q _ l (same_upd n) n upd_same⟩⟩
theorem lstL {p : Addr} {ys : List V} (h : SqL K H p ys) (q : Ml H ys Q) : rListQ K [.ref p] H Q := ⟨p, ys, rfl, .inl h, fun l n => q _ l (same_upd n) n upd_same⟩
theorem cat {l b : Addr} {xs zs : List V} (h1 : H l = some (.lst xs)) (h2 : H b = some (.lst zs)) (z : Nat.ble (xs.length + zs.length) 100000 = true) (q : Ml H (xs ++ zs) Q) : rCat (.ref l) (.ref b) H Q :=
  ⟨l, b, xs, zs, rfl, rfl, h1, h2, Nat.le_of_lt (Nat.lt_of_le_of_lt (Nat.le_of_ble_eq_true z) (by decide)), fun p n => q _ p (same_upd n) n upd_same⟩
theorem sl {r : V → Option Int → Option Int → Hp → VK → Prop} {tl th : TO} (h : te σ H fun x H1 => tl σ H1 fun l H2 => th σ H2 fun u H3 => r x l u H3 Q) : tSl r te tl th σ H Q := h
theorem noPart {Q : Option Int → Hp → Prop} (h : Q none H) : tNoPart σ H Q := h
theorem part {Q : Option Int → Hp → Prop} (h : te σ H fun x H1 => ∃ i, x = .int i ∧ Q (some i) H1) : tPart te σ H Q := h
theorem isInt {P : Int → Prop} (h : P i) : ∃ k, V.int i = .int k ∧ P k := ⟨i, rfl, h⟩
theorem slL {a : Addr} {xs : List V} {lo hi : Option Int} (h : SqL K H a xs) (q : Ml H (cutV xs lo hi) Q) : rSlL K (.ref a) lo hi H Q := ⟨a, xs, rfl, h, fun p n => q _ p (same_upd n) n upd_same⟩
theorem absI (q : Q (.int (i.natAbs : Int)) H) : rAbs K [.int i] H Q := ⟨i, rfl, q⟩
theorem intI (q : Q (.int i) H) : rInt K [.int i] H Q := .inl ⟨i, rfl, q⟩
theorem intB {b : Bool} (q : Q (.int (if b then 1 else 0)) H) : rInt K [.bl b] H Q := .inr ⟨b, rfl, q⟩
theorem lenT {p : Addr} {ys : List V} (h : SqT K H p ys) (q : Q (.int (ys.length : Int)) H) : rLenQ K [.ref p] H Q := ⟨p, ys, rfl, .inr h, q⟩
theorem lenL {p : Addr} {ys : List V} (h : SqL K H p ys) (q : Q (.int (ys.length : Int)) H) : rLenQ K [.ref p] H Q := ⟨p, ys, rfl, .inl h, q⟩
theorem eqS {a b : Str} (q : Q (.bl (decide (V.str a = V.str b))) H) : rEq (.str a) (.str b) H Q := ⟨rfl, q⟩
theorem eqBl {a b : Bool} (q : Q (.bl (decide (V.bl a = V.bl b))) H) : rEq (.bl a) (.bl b) H Q := ⟨rfl, q⟩
theorem neBl {a b : Bool} (q : Q (.bl (!decide (V.bl a = V.bl b))) H) : rNe (.bl a) (.bl b) H Q := ⟨rfl, q⟩
theorem isiTupS {a : Addr} {xs : List V} (h : SqT K H a xs) (q : Q (.bl true) H) : rIsi K [.ref a, .ty "tuple"] H Q := by
  rcases h with (h | ⟨o, h⟩) | ⟨o, its, n, h1, h2, _⟩
  · exact Wc.isiTup h q
  · exact ⟨_, _, _, _, true, rfl, ClsV.ty _, TyX.fTuple h, kit_ty (by decide +kernel), q⟩
  · exact ⟨_, _, _, _, true, rfl, ClsV.ty _, TyX.kTuple h1 h2, kit_ty (by decide +kernel), q⟩
theorem slT {a : Addr} {xs : List V} {lo hi : Option Int} (h : SqT K H a xs) (n : ¬ (HT.sIx xs.length 0 lo = 0 ∧ HT.sIx xs.length xs.length hi = xs.length)) (q : Mt H (cutV xs lo hi) Q) : rSlT K (.ref a) lo hi H Q := ⟨a, xs, rfl, h, n, fun p nn => q _ p (same_upd nn) nn upd_same⟩
theorem isiT {b : Bool} (q : Q (.bl true) H) : rIsi K [.bl b, .ty "bool"] H Q := Wc.isiT q
theorem isiTup {a : Addr} {xs : List V} (h : H a = some (.tup xs)) (q : Q (.bl true) H) : rIsi K [.ref a, .ty "tuple"] H Q := Wc.isiTup h q
theorem isiLst {a : Addr} {xs : List V} (h : H a = some (.lst xs)) (q : Q (.bl true) H) : rIsi K [.ref a, .ty "list"] H Q := Wc.isiLst h q
/-! == of tuples of ints -/
theorem eqB {ns ms : List Int} : PyData.eqv (.tuple (ns.map PyData.int)) (.tuple (ms.map PyData.int)) = decide (ns = ms) := by
  have h : ∀ ns ms : List Int, PyData.eqvAll (ns.map PyData.int) (ms.map PyData.int) = decide (ns = ms) := by
    intro ns
    induction ns with
    | nil => intro ms; cases ms <;> simp [PyData.eqvAll]
    | cons n ns ih => intro ms; cases ms with
      | nil => simp [PyData.eqvAll]
      | cons m ms =>
        rw [List.map_cons, List.map_cons, PyData.eqvAll, ih]
        by_cases h : n = m
        · simp [PyData.eqv, h]
        · simp [PyData.eqv, h]
  rw [PyData.eqv]
  exact h ns ms
theorem eqTs {p q : Addr} {ns ms : List Int} {b : Bool} (h1 : SqT K H p (ns.map V.int)) (h2 : SqT K H q (ms.map V.int)) (hb : b = decide (ns = ms)) (h : Q (.bl b) H) : rEqD K (.ref p) (.ref q) H Q :=
  ⟨_, _, .tup h1 (dp_ints ns), .tup h2 (dp_ints ms), shaped_intsT ns, shaped_intsT ms, by rw [eqB, ← hb]; exact h⟩
theorem neTs {p q : Addr} {ns ms : List Int} {b : Bool} (h1 : SqT K H p (ns.map V.int)) (h2 : SqT K H q (ms.map V.int)) (hb : b = decide (ns = ms)) (h : Q (.bl (!b)) H) : rNeD K (.ref p) (.ref q) H Q :=
  ⟨_, _, .tup h1 (dp_ints ns), .tup h2 (dp_ints ms), shaped_intsT ns, shaped_intsT ms, by rw [eqB, ← hb]; exact h⟩
variable {p q : Addr} {a b c d a' b' c' d' : Int}
theorem eq2 (h1 : SqT K H p [.int a, .int b]) (h2 : SqT K H q [.int a', .int b']) (h : Q (.bl (decide (a = a' ∧ b = b'))) H) : rEqD K (.ref p) (.ref q) H Q :=
  eqTs (ns := [a, b]) (ms := [a', b']) h1 h2 (by simp) h
theorem ne2 (h1 : SqT K H p [.int a, .int b]) (h2 : SqT K H q [.int a', .int b']) (h : Q (.bl (!decide (a = a' ∧ b = b'))) H) : rNeD K (.ref p) (.ref q) H Q :=
  neTs (ns := [a, b]) (ms := [a', b']) h1 h2 (by simp) h
theorem eq3 (h1 : SqT K H p [.int a, .int b, .int c]) (h2 : SqT K H q [.int a', .int b', .int c']) (h : Q (.bl (decide (a = a' ∧ b = b' ∧ c = c'))) H) : rEqD K (.ref p) (.ref q) H Q :=
  eqTs (ns := [a, b, c]) (ms := [a', b', c']) h1 h2 (by simp) h
theorem ne3 (h1 : SqT K H p [.int a, .int b, .int c]) (h2 : SqT K H q [.int a', .int b', .int c']) (h : Q (.bl (!decide (a = a' ∧ b = b' ∧ c = c'))) H) : rNeD K (.ref p) (.ref q) H Q :=
  neTs (ns := [a, b, c]) (ms := [a', b', c']) h1 h2 (by simp) h
theorem eq4 (h1 : SqT K H p [.int a, .int b, .int c, .int d]) (h2 : SqT K H q [.int a', .int b', .int c', .int d']) (h : Q (.bl (decide (a = a' ∧ b = b' ∧ c = c' ∧ d = d'))) H) : rEqD K (.ref p) (.ref q) H Q :=
  eqTs (ns := [a, b, c, d]) (ms := [a', b', c', d']) h1 h2 (by simp) h
theorem ne4 (h1 : SqT K H p [.int a, .int b, .int c, .int d]) (h2 : SqT K H q [.int a', .int b', .int c', .int d']) (h : Q (.bl (!decide (a = a' ∧ b = b' ∧ c = c' ∧ d = d'))) H) : rNeD K (.ref p) (.ref q) H Q :=
  neTs (ns := [a, b, c, d]) (ms := [a', b', c', d']) h1 h2 (by simp) h
/-! loops over ranges, comprehensions -/
def ForJ (J : It) (g : TG) (tb : TS) (D : Ends) (σ : L2.St) (H1 : Hp) : Prop := tFor (fun _ Hs R => R J Hs) g tb D σ H1
theorem forE {wi : TI} {g : TG} {tb : TS} {D : Ends} (h : wi σ H fun J H1 => ForJ J g tb D σ H1) : tFor wi g tb D σ H := h
def RgOne (vs : List V) (P : Int → Prop) : Prop := ∃ j : Int, vs = [.int j] ∧ -(2 ^ 62) ≤ j ∧ j < 2 ^ 62 ∧ P j
def RgTwo (vs : List V) (P : Int → Int → Prop) : Prop := ∃ i j : Int, vs = [.int i, .int j] ∧ (-(2 ^ 62) ≤ i ∧ i < 2 ^ 62 ∧ -(2 ^ 62) ≤ j ∧ j < 2 ^ 62) ∧ P i j
theorem rng1 {ta : TA} {R : It → Hp → Prop} (h : ta σ H fun vs H1 => RgOne vs fun j => R (Itr 0 j.toNat) H1) : iRng1 ta σ H R := h
theorem rng2 {ta : TA} {R : It → Hp → Prop} (h : ta σ H fun vs H1 => RgTwo vs fun i j => R (Itr i (j - i).toNat) H1) : iRng2 ta σ H R := h
theorem rg1 {P : Int → Prop} {j : Int} (h1 : -(2 ^ 62) ≤ j) (h2 : j < 2 ^ 62) (h : P j) : RgOne [.int j] P := ⟨j, rfl, h1, h2, h⟩
theorem rg2 {P : Int → Int → Prop} {i j : Int} (h1 : -(2 ^ 62) ≤ i) (h2 : i < 2 ^ 62) (h3 : -(2 ^ 62) ≤ j) (h4 : j < 2 ^ 62) (h : P i j) : RgTwo [.int i, .int j] P := ⟨i, j, rfl, ⟨h1, h2, h3, h4⟩, h⟩
theorem forN {lo : Int} {n : Nat} {g : TG} {tb : TS} {D : Ends} (Pv : Nat → L2.St → Hp → Prop) (h0 : Pv 0 σ H)
    (hs : ∀ i σ H, i < n → Pv i σ H → g (.int (lo + i)) σ H fun σ2 H2 => tb (Ends.mk (Pv (i + 1)) D.rt D.nx (Pv (i + 1))) σ2 H2) (hd : ∀ σ H, Pv n σ H → D.nx σ H) : ForJ (Itr lo n) g tb D σ H := for_range Pv h0 hs hd
def RefOne (v : V) (P : Addr → Prop) : Prop := ∃ a, v = .ref a ∧ P a
theorem itup {tl : TE} {R : It → Hp → Prop} (h : tl σ H fun x H1 => ∃ a, x = .ref a ∧ (∃ xs, SqT K H1 a xs) ∧ R (Itt K a) H1) : iTup K tl σ H R := h
theorem ilst {tl : TE} {R : It → Hp → Prop} (h : tl σ H fun x H1 => ∃ a, x = .ref a ∧ (∃ xs, SqL K H1 a xs) ∧ R (Itl K a) H1) : iList K tl σ H R := h
theorem refs {p : Addr} {xs : List V} {S : Addr → List V → Prop} {R : Addr → Prop} (h1 : S p xs) (h : R p) : ∃ a, V.ref p = .ref a ∧ (∃ ys, S a ys) ∧ R a := ⟨p, rfl, ⟨xs, h1⟩, h⟩
def LcJ (J : It) (g : TG) (tt : TT) (te : TE) (vs : List Nat) (σ : L2.St) (H1 : Hp) (Q : VK) : Prop := tLc (fun _ Hs R => R J Hs) g tt te vs σ H1 Q
theorem lcE {wi : TI} {g : TG} {tt : TT} {vs : List Nat} (h : wi σ H fun J H1 => LcJ J g tt te vs σ H1 Q) : tLc wi g tt te vs σ H Q := h
/-- [int for k in range(n)], each of them by c draws -/
theorem lcI {p a : Addr} {N c n : Nat} {lo : Int} {g : TG} {vs : List Nat} (P : Int → Prop) (hn : n ≤ 900) (d : Dw H p a N)
    (hs : ∀ i H' (Q' : VK), i < n → Dw H' p a (N + c * i) → Kp p H H' → (∀ x H4, P x → Dw H4 p a (N + c * i + c) → Kp p H' H4 → Q' (.int x) H4) → g (.int (lo + i)) (wipe σ vs) H' fun σ2 H2 => wipe σ2 vs = wipe σ vs ∧ te σ2 H2 Q')
    (hq : ∀ H' D (xs : List Int), H' D = some (.lst (xs.map V.int)) → xs.length = n → (∀ x ∈ xs, P x) → Dw H' p a (N + c * n) → Kp p H H' → H D = none → D ≠ p → Q (.ref D) H') : LcJ (Itr lo n) g tYes te vs σ H Q := by
  intro D nD
  have Dp := (d.ne nD).1
  have Da := (d.ne nD).2
  refine lc_range (lo := lo) (n := n) (fun i H' => ∃ xs : List Int, H' D = some (.lst (xs.map V.int)) ∧ xs.length = i ∧ (∀ x ∈ xs, P x) ∧ Dw H' p a (N + c * i) ∧ Kp p H H')
    ⟨[], upd_same, rfl, (fun x h => nomatch h), (d.new nD).mono (by omega), same_kp (same_upd nD)⟩ (fun i H5 hi ⟨xs, h1, h2, h3, h4, h5⟩ => ?_) (fun H5 ⟨xs, h1, h2, h3, h4, h5⟩ => hq H5 D xs h1 h2 h3 h4 h5 nD Dp)
  refine hs i H5 _ hi h4 h5 (fun x H4 px d4 k4 => ⟨_, k4 _ _ Dp h1, ?_, xs ++ [x], ?_, ?_, ?_, ?_, ?_⟩)
  · rw [List.length_map]
    exact small1000 (by omega)
  · rw [upd_same, List.map_append]
    rfl
  · rw [List.length_append, h2]
    rfl
  · intro z hz
    rcases List.mem_append.mp hz with hz | hz
    · exact h3 z hz
    · rw [List.mem_singleton.mp hz]
      exact px
  · have e : N + c * (i + 1) = N + c * i + c := by rw [Nat.mul_add, Nat.mul_one, Nat.add_assoc]
    rw [e]
    exact d4.mut Dp Da
  · intro b o hb e
    have e2 := k4 _ _ hb (h5 _ _ hb e)
    rw [upd_ne (ne_of_none e nD)]
    exact e2
/-- [f(x) for x in a tuple (a list) of ints] -/
theorem lcT {a : Addr} {ns : List Int} {g : TG} {vs : List Nat} (f : Int → Int) (hl : ns.length ≤ 900) (hT : SqT K H a (ns.map V.int))
    (hs : ∀ n H' (Q' : VK), n ∈ ns → Same H H' → Q' (.int (f n)) H' → g (.int n) (wipe σ vs) H' fun σ2 H2 => wipe σ2 vs = wipe σ vs ∧ te σ2 H2 Q')
    (hq : ∀ H' D, H' D = some (.lst ((ns.map f).map V.int)) → Same H H' → H D = none → Q (.ref D) H') : LcJ (Itt K a) g tYes te vs σ H Q := by
  intro D nD
  refine lc_tup (K := K) (a := a) (xs := ns.map V.int) (fun i H' => H' D = some (.lst (((ns.take i).map f).map V.int)) ∧ Same H H') ⟨upd_same, same_upd nD⟩ (fun i H' _ h => same_seqT h.2 hT) (fun i x H5 hx ⟨h1, h5⟩ => ?_) (fun H5 ⟨h1, h5⟩ => ?_)
  · rw [List.getElem?_map] at hx
    cases hn : ns[i]? with
    | none =>
      rw [hn] at hx
      cases hx
    | some n =>
      rw [hn] at hx
      cases hx
      refine hs n H5 _ (List.mem_of_getElem? hn) h5 ⟨_, h1, ?_, ?_, ?_⟩
      · rw [List.length_map, List.length_map, List.length_take]
        exact small1000 (by omega)
      · rw [upd_same, List.take_add_one, hn, List.map_append, List.map_append]
        rfl
      · exact same_mut h5 nD
  · rw [List.length_map, List.take_length] at h1
    exact hq H5 D h1 h5 nD
end
theorem isEq {α : Sort _} {a b : α} (h : a = b) : a = b := h
theorem bm {σ : L2.St} {H : Hp} {Q : VK} {T : String} {r : V → List V → Hp → VK → Prop} {to : TE} {t : TA} {K : PySem.W.Frag} (h : to σ H fun x H1 => tyV K T x H1 ∧ t σ H1 fun xs H2 => r x xs H2 Q) : tBM K T r to t σ H Q := h
theorem bmT {H : Hp} {K : PySem.W.Frag} {p : Addr} {xs : List V} {B : Prop} (h1 : H p = some (.lst xs)) (h2 : B) : tyV K "list" (.ref p) H ∧ B := ⟨.inl ⟨rfl, _, SqL.of h1⟩, h2⟩
theorem app {H : Hp} {Q : VK} {l : Addr} {xs : List V} {y : V} (h : H l = some (.lst xs)) (z : xs.length ≤ 1000000) (q : ∀ H', H' = upd H l (.lst (xs ++ [y])) → H' l = some (.lst (xs ++ [y])) → Q .non H') : rAppend (.ref l) [y] H Q :=
  ⟨l, xs, y, rfl, rfl, h, Nat.lt_of_le_of_lt z (by decide), q _ rfl upd_same⟩
theorem dput {σ : L2.St} {H : Hp} {td ty tv : TE} {nx : L2.St → Hp → Prop} {rt : VK} {bk ct : L2.St → Hp → Prop} (h : tv σ H fun v H1 => td σ H1 fun x H2 => ty σ H2 fun y H3 => ∃ a H4, x = .ref a ∧ DPut H3 a y v H4 ∧ nx σ H4) : sDPut td ty tv (Ends.mk nx rt bk ct) σ H := h
theorem dget {σ : L2.St} {H : Hp} {Q : VK} {td ty : TE} (h : td σ H fun x H1 => ty σ H1 fun y H2 => ∃ a v, x = .ref a ∧ DGet H2 a y (some v) ∧ Q v H2) : tDGet td ty σ H Q := h
theorem din {σ : L2.St} {H : Hp} {Q : VK} {td ty : TE} (h : ty σ H fun y H1 => td σ H1 fun x H2 => ∃ a o, x = .ref a ∧ DGet H2 a y o ∧ Q (.bl o.isSome) H2) : tDIn ty td σ H Q := h
theorem dget2 {σ : L2.St} {H : Hp} {Q : VK} {td ty tx : TE} (h : td σ H fun x H1 => ∃ a, x = .ref a ∧ IsD H1 a ∧ ty σ H1 fun y H2 => tx σ H2 fun z H3 => ∃ o, DGet H3 a y o ∧ Q (o.getD z) H3) : tDGet2 td ty tx σ H Q := h
/-! slots behind many stores -/
def LenOk (n : Nat) (σ : L2.St) : Prop := n < σ.length
theorem lenS {n m : Nat} {σ : L2.St} {x : Option V} (h : LenOk n σ) : LenOk n (σ.set m x) := by
  unfold LenOk at *
  rw [List.length_set]
  exact h
theorem lenB {n : Nat} {σ : L2.St} (h : Nat.ble (n + 1) σ.length = true) : LenOk n σ := Nat.le_of_ble_eq_true h
theorem gsE {n : Nat} {σ : L2.St} {x r : Option V} (h : LenOk n σ) (e : some x = some r) : (σ.set n x)[n]? = some r := by
  rw [List.getElem?_set_self h]
  exact e
theorem gsN {n m : Nat} {σ : L2.St} {x : Option V} {r : Option (Option V)} (h : Nat.beq m n = false) (e : σ[n]? = r) : (σ.set m x)[n]? = r := by
  rw [List.getElem?_set_ne (fun z => by rw [z, Nat.beq_refl] at h; cases h)]
  exact e
theorem isLeI {a b : Int} (h : a ≤ b) : a ≤ b := h
theorem cdiv {i j : Int} (h : decide (0 < j ∧ j < 1073741824) = true) : CDiv i j := of_decide_eq_true (p := 0 < j ∧ j < 1073741824) h
theorem cpow {i j : Int} (h : decide (0 ≤ j ∧ j ≤ 1000000 ∧ i.natAbs < 2 ^ 64) = true) : CPow i j := of_decide_eq_true (p := 0 ≤ j ∧ j ≤ 1000000 ∧ i.natAbs < 2 ^ 64) h
theorem gBd {n : Nat} {x : Int} (h : Bd n x) : Bd n x := h
theorem gSqT {K : PySem.W.Frag} {H : Hp} {a : Addr} {xs : List V} (h : SqT K H a xs) : SqT K H a xs := h
theorem notT {A B : Prop} (h : B) : if (!true) = true then A else B := h
theorem notF {A B : Prop} (h : A) : if (!false) = true then A else B := h
theorem isNe {α : Sort _} {a b : α} (h : a ≠ b) : a ≠ b := h
theorem cdivX {n : Nat} {i j : Int} (h1 : j ≠ 0) (h2 : Bd n j) (l : Nat.ble n 9000 = true) : CDivX i j := ⟨h1, Nat.lt_of_lt_of_le h2 (Nat.pow_le_pow_right (by decide) (Nat.le_of_ble_eq_true l))⟩
theorem isLe {a b : Nat} (h : a ≤ b) : a ≤ b := h
theorem isLtI {a b : Int} (h : a < b) : a < b := h
theorem isLt {a b : Nat} (h : a < b) : a < b := h
end R
/-! unpacking of a list -/
theorem pgU {X : Cx} (K : PySem.W.Frag) (n : Nat) {es : List Expr} {k : Nat} {pos : Pos} {t : TGs} (hc : X.calm = true) (h : PGs X es t) (hn : (assignEach es X.env).length = n := by rfl) (hst : (assignEach es X.env).findIdx? (·.1) = none := by rfl) (hK : X.K = K := by rfl) : PG X (.Tuple es k pos) (gUnl K n t) := by
  subst hK
  exact pg_unl hc h hn hst
theorem r_gunl {K : PySem.W.Frag} {σ : L2.St} {H : Hp} {n : Nat} {t : TGs} {a : Addr} {xs : List V} {Q : L2.St → Hp → Prop} (h1 : SqL K H a xs) (h2 : xs.length = n) (h : t xs σ H Q) : gUnl K n t (.ref a) σ H Q := ⟨a, xs, rfl, h1, h2, h⟩

/-! ### lists of tuples of ints -/
def tD (t : List Int) : PyData := .tuple (t.map PyData.int)
inductive Tps (K : PySem.W.Frag) (H : Hp) : List V → List (List Int) → Prop where
  | nil : Tps K H [] []
  | cons {a : Addr} {t : List Int} {vs : List V} {ts : List (List Int)} : SqT K H a (t.map V.int) → Tps K H vs ts → Tps K H (.ref a :: vs) (t :: ts)
theorem Tps.kt {K : PySem.W.Frag} {H H' : Hp} (s : KT K H H') : ∀ {vs : List V} {ts : List (List Int)}, Tps K H vs ts → Tps K H' vs ts
  | _, _, .nil => .nil
  | _, _, .cons h t => .cons (s _ _ h) (t.kt s)
theorem Tps.same {K : PySem.W.Frag} {H H' : Hp} {vs : List V} {ts : List (List Int)} (h : Tps K H vs ts) (s : Same H H') : Tps K H' vs ts := h.kt (same_kt s)
theorem Tps.len {K : PySem.W.Frag} {H : Hp} : ∀ {vs : List V} {ts : List (List Int)}, Tps K H vs ts → vs.length = ts.length
  | _, _, .nil => rfl
  | _, _, .cons _ t => by rw [List.length_cons, List.length_cons, t.len]
theorem Tps.app {K : PySem.W.Frag} {H : Hp} : ∀ {vs ws : List V} {ts us : List (List Int)}, Tps K H vs ts → Tps K H ws us → Tps K H (vs ++ ws) (ts ++ us)
  | _, _, _, _, .nil, h => h
  | _, _, _, _, .cons a t, h => .cons a (t.app h)
theorem Tps.snoc {K : PySem.W.Frag} {H : Hp} {vs : List V} {ts : List (List Int)} {a : Addr} {t : List Int} (h : Tps K H vs ts) (s : SqT K H a (t.map V.int)) : Tps K H (vs ++ [.ref a]) (ts ++ [t]) := h.app (.cons s .nil)
theorem Tps.at {K : PySem.W.Frag} {H : Hp} : ∀ {vs : List V} {ts : List (List Int)} {i : Nat} {x : V}, Tps K H vs ts → vs[i]? = some x → ∃ a t, x = .ref a ∧ ts[i]? = some t ∧ SqT K H a (t.map V.int)
  | _, _, _, _, .nil, h => by cases h
  | _, _, 0, _, .cons s t, h => by
    cases h
    exact ⟨_, _, rfl, rfl, s⟩
  | _, _, i + 1, _, .cons s t, h => t.at (i := i) h
theorem Tps.dp {K : PySem.W.Frag} {H : Hp} : ∀ {vs : List V} {ts : List (List Int)}, Tps K H vs ts → DpAll K H vs (ts.map tD)
  | _, _, .nil => .nil
  | _, _, .cons h t => .cons (.tup h (dp_ints _)) t.dp
theorem lay_tups : ∀ ts : List (List Int), PyData.canLayAll0 (ts.map tD) = true
  | [] => rfl
  | t :: ts => by
    rw [List.map_cons, PyData.canLayAll0, lay_tups ts]
    unfold tD
    rw [PyData.canLay0, lay_ints]
    rfl
theorem depth_tups : ∀ ts : List (List Int), PyData.depthAll (ts.map tD) ≤ 1
  | [] => by rw [List.map_nil, PyData.depthAll]; decide
  | t :: ts => by
    rw [List.map_cons, PyData.depthAll]
    unfold tD
    rw [PyData.depth, depth_ints]
    exact Nat.max_le.mpr ⟨by decide, depth_tups ts⟩
theorem shaped_tups (ts : List (List Int)) : SeqAt.shaped (.list (ts.map tD)) = true := by
  show (PyData.canLay0 (.list (ts.map tD)) && decide (PyData.depth (.list (ts.map tD)) ≤ 64)) = true
  rw [Bool.and_eq_true]
  refine ⟨by rw [PyData.canLay0]; exact lay_tups ts, decide_eq_true ?_⟩
  rw [PyData.depth]
  have := depth_tups ts
  omega
theorem shaped_tupsT (ts : List (List Int)) : SeqAt.shaped (.tuple (ts.map tD)) = true := by
  show (PyData.canLay0 (.tuple (ts.map tD)) && decide (PyData.depth (.tuple (ts.map tD)) ≤ 64)) = true
  rw [Bool.and_eq_true]
  refine ⟨by rw [PyData.canLay0]; exact lay_tups ts, decide_eq_true ?_⟩
  rw [PyData.depth]
  have := depth_tups ts
  omega
theorem eqvAll_tups : ∀ ts us : List (List Int), PyData.eqvAll (ts.map tD) (us.map tD) = decide (ts = us)
  | [], [] => by simp [PyData.eqvAll]
  | [], _ :: _ => by simp [PyData.eqvAll]
  | _ :: _, [] => by simp [PyData.eqvAll]
  | t :: ts, u :: us => by
    rw [List.map_cons, List.map_cons, PyData.eqvAll, eqvAll_tups ts us]
    unfold tD
    rw [R.eqB]
    by_cases h : t = u <;> simp [h]
theorem any_tups (t : List Int) : ∀ ts : List (List Int), (ts.map tD).any (fun z => PyData.eqv z (tD t)) = decide (t ∈ ts)
  | [] => by simp
  | u :: ts => by
    rw [List.map_cons, List.any_cons, any_tups t ts]
    have e : PyData.eqv (tD u) (tD t) = decide (u = t) := R.eqB
    rw [e]
    by_cases h : u = t
    · subst h
      simp
    · have h2 : ¬ t = u := fun z => h z.symm
      by_cases h3 : t ∈ ts <;> simp [h, h2, h3]
namespace R
theorem eqTps {K : PySem.W.Frag} {H : Hp} {Q : VK} {p q : Addr} {vs ws : List V} {ts us : List (List Int)} (h1 : SqL K H p vs) (t1 : Tps K H vs ts) (h2 : SqL K H q ws) (t2 : Tps K H ws us) (h : Q (.bl (decide (ts = us))) H) : rEqD K (.ref p) (.ref q) H Q := by
  refine ⟨_, _, .lst h1 t1.dp, .lst h2 t2.dp, shaped_tups _, shaped_tups _, ?_⟩
  rw [PyData.eqv, eqvAll_tups]
  exact h
theorem neTps {K : PySem.W.Frag} {H : Hp} {Q : VK} {p q : Addr} {vs ws : List V} {ts us : List (List Int)} (h1 : SqL K H p vs) (t1 : Tps K H vs ts) (h2 : SqL K H q ws) (t2 : Tps K H ws us) (h : Q (.bl (!decide (ts = us))) H) : rNeD K (.ref p) (.ref q) H Q := by
  refine ⟨_, _, .lst h1 t1.dp, .lst h2 t2.dp, shaped_tups _, shaped_tups _, ?_⟩
  rw [PyData.eqv, eqvAll_tups]
  exact h
theorem notInT {K : PySem.W.Frag} {H : Hp} {Q : VK} {p q : Addr} {vs : List V} {t : List Int} {ts : List (List Int)} (h1 : SqT K H p (t.map V.int)) (h2 : SqL K H q vs) (t2 : Tps K H vs ts) (h : Q (.bl (!decide (t ∈ ts))) H) : rNotInD K (.ref p) (.ref q) H Q := by
  refine ⟨_, _, .tup h1 (dp_ints _), .lst h2 t2.dp, shaped_intsT _, shaped_tups _, ?_⟩
  have e := any_tups t ts
  unfold tD at e
  rw [show (ts.map tD) = ts.map fun t => .tuple (t.map PyData.int) from rfl, e]
  exact h
theorem inT {K : PySem.W.Frag} {H : Hp} {Q : VK} {p q : Addr} {vs : List V} {t : List Int} {ts : List (List Int)} (h1 : SqT K H p (t.map V.int)) (h2 : SqL K H q vs) (t2 : Tps K H vs ts) (h : Q (.bl (decide (t ∈ ts))) H) : rInD K (.ref p) (.ref q) H Q := by
  refine ⟨_, _, .tup h1 (dp_ints _), .lst h2 t2.dp, shaped_intsT _, shaped_tups _, ?_⟩
  have e := any_tups t ts
  unfold tD at e
  rw [show (ts.map tD) = ts.map fun t => .tuple (t.map PyData.int) from rfl, e]
  exact h
end R
theorem room65 {k : Nat} {A : Around} (r : Room k A) : A.units + 65 < cLine := by
  have := r.un
  omega
theorem notInDQ {X : Cx} (K : PySem.W.Frag) (hu : X.A.units + 65 < cLine) (h : X.K = K := by rfl) : OpR X (compareOp .NotIn) (rNotInD K) := by
  subst h
  exact op_notInD hu
theorem inDQ {X : Cx} (K : PySem.W.Frag) (hu : X.A.units + 65 < cLine) (h : X.K = K := by rfl) : OpR X (compareOp .In) (rInD K) := by
  subst h
  exact op_inD hu

/-! ### [f x for x in .. if p x] -/
def rgI (lo : Int) (n : Nat) : List Int := (List.range n).map fun (t : Nat) => lo + (t : Int)
theorem rgI_succ (lo : Int) (n : Nat) : rgI lo (n + 1) = rgI lo n ++ [lo + (n : Int)] := by
  unfold rgI
  rw [List.range_succ, List.map_append]
  rfl
theorem rgI_len (lo : Int) (n : Nat) : (rgI lo n).length = n := by
  unfold rgI
  rw [List.length_map, List.length_range]
theorem mem_rgI {lo x : Int} {n : Nat} : x ∈ rgI lo n ↔ lo ≤ x ∧ x < lo + (n : Int) := by
  unfold rgI
  rw [List.mem_map]
  constructor
  · rintro ⟨t, ht, rfl⟩
    have := List.mem_range.mp ht
    omega
  · rintro ⟨h1, h2⟩
    exact ⟨(x - lo).toNat, List.mem_range.mpr (by omega), by omega⟩
theorem rgI_lt (lo : Int) (n : Nat) : (rgI lo n).Pairwise (· < ·) := by
  unfold rgI
  exact List.pairwise_map.mpr ((List.pairwise_lt_range (n := n)).imp fun h => by omega)
theorem lt_ext : ∀ {l m : List Int}, l.Pairwise (· < ·) → m.Pairwise (· < ·) → (∀ x, x ∈ l ↔ x ∈ m) → l = m
  | [], [], _, _, _ => rfl
  | [], b :: m, _, _, h => absurd ((h b).mpr List.mem_cons_self) (by simp)
  | a :: l, [], _, _, h => absurd ((h a).mp List.mem_cons_self) (by simp)
  | a :: l, b :: m, h1, h2, h => by
    obtain ⟨a1, a2⟩ := List.pairwise_cons.mp h1
    obtain ⟨b1, b2⟩ := List.pairwise_cons.mp h2
    have e : a = b := by
      rcases List.mem_cons.mp ((h a).mp List.mem_cons_self) with k | k
      · exact k
      · rcases List.mem_cons.mp ((h b).mpr List.mem_cons_self) with k2 | k2
        · exact k2.symm
        · have := a1 b k2
          have := b1 a k
          omega
    subst e
    rw [lt_ext a2 b2 fun x => ?_]
    constructor
    · intro hx
      rcases List.mem_cons.mp ((h x).mp (List.mem_cons_of_mem _ hx)) with k | k
      · have := a1 x hx
        omega
      · exact k
    · intro hx
      rcases List.mem_cons.mp ((h x).mpr (List.mem_cons_of_mem _ hx)) with k | k
      · have := b1 x hx
        omega
      · exact k
theorem le_nodup_lt {l : List Int} (h : l.Pairwise (· ≤ ·)) (n : l.Nodup) : l.Pairwise (· < ·) := by
  refine List.Pairwise.imp ?_ (h.and n)
  intro a b ⟨x, y⟩
  have : a ≠ b := y
  omega
namespace R
section
variable {K : PySem.W.Frag} {σ : L2.St} {H : Hp} {Q : VK} {g : TG} {tt : TT} {te : TE} {vs : List Nat}
theorem lcFR {lo : Int} {n : Nat} (p : Int → Bool) (f : Int → Int) (hn : n ≤ 100000)
    (hs : ∀ i H' (C : V → Hp → Prop) (E : Hp → Prop), i < n → Same H H' → (p (lo + i) = true → C (.int (f (lo + i))) H') → (p (lo + i) = false → E H') → g (.int (lo + i)) (wipe σ vs) H' fun σ2 H2 => wipe σ2 vs = wipe σ vs ∧ tt σ2 H2 fun k H3 => if k = true then te σ2 H3 C else E H3)
    (hq : ∀ H' D, H' D = some (.lst ((((rgI lo n).filter p).map f).map V.int)) → Same H H' → H D = none → Q (.ref D) H') : LcJ (Itr lo n) g tt te vs σ H Q := by
  intro D nD
  refine lc_range (lo := lo) (n := n) (fun i H' => H' D = some (.lst ((((rgI lo i).filter p).map f).map V.int)) ∧ Same H H') ⟨upd_same, same_upd nD⟩ (fun i H5 hi ⟨h1, h5⟩ => ?_) (fun H5 ⟨h1, h5⟩ => hq H5 D h1 h5 nD)
  refine hs i H5 _ _ hi h5 (fun e => ⟨_, h1, ?_, ?_, same_mut h5 nD⟩) (fun e => ⟨?_, h5⟩)
  · rw [List.length_map, List.length_map]
    have := List.length_filter_le p (rgI lo i)
    rw [rgI_len] at this
    exact Nat.lt_of_le_of_lt (Nat.le_trans this (by omega : i ≤ 100000)) (by decide)
  · rw [upd_same, rgI_succ, List.filter_append, List.filter_cons_of_pos (by exact e), List.map_append, List.map_append]
    rfl
  · rw [rgI_succ, List.filter_append, List.filter_cons_of_neg (by rw [e]; decide), List.filter_nil, List.append_nil]
    exact h1
theorem lcFL {a : Addr} {ns : List Int} (p : Int → Bool) (f : Int → Int) (hl : ns.length ≤ 100000) (hT : SqL K H a (ns.map V.int))
    (hs : ∀ n H' (C : V → Hp → Prop) (E : Hp → Prop), n ∈ ns → Same H H' → (p n = true → C (.int (f n)) H') → (p n = false → E H') → g (.int n) (wipe σ vs) H' fun σ2 H2 => wipe σ2 vs = wipe σ vs ∧ tt σ2 H2 fun k H3 => if k = true then te σ2 H3 C else E H3)
    (hq : ∀ H' D, H' D = some (.lst (((ns.filter p).map f).map V.int)) → Same H H' → H D = none → Q (.ref D) H') : LcJ (Itl K a) g tt te vs σ H Q := by
  intro D nD
  refine lc_list (K := K) (a := a) (xs := ns.map V.int) (fun i H' => H' D = some (.lst ((((ns.take i).filter p).map f).map V.int)) ∧ Same H H') ⟨upd_same, same_upd nD⟩ (fun i H' _ h => h.2.seq hT) (fun i x H5 hx ⟨h1, h5⟩ => ?_) (fun H5 ⟨h1, h5⟩ => ?_)
  · rw [List.getElem?_map] at hx
    cases hn : ns[i]? with
    | none =>
      rw [hn] at hx
      cases hx
    | some n =>
      rw [hn] at hx
      cases hx
      refine hs n H5 _ _ (List.mem_of_getElem? hn) h5 (fun e => ⟨_, h1, ?_, ?_, same_mut h5 nD⟩) (fun e => ⟨?_, h5⟩)
      · rw [List.length_map, List.length_map]
        have := List.length_filter_le p (ns.take i)
        rw [List.length_take] at this
        exact Nat.lt_of_le_of_lt (Nat.le_trans this (by omega : min i ns.length ≤ 100000)) (by decide)
      · rw [upd_same, List.take_add_one, hn, Option.toList_some, List.filter_append, List.filter_cons_of_pos (by exact e), List.map_append, List.map_append]
        rfl
      · rw [List.take_add_one, hn, Option.toList_some, List.filter_append, List.filter_cons_of_neg (by rw [e]; decide), List.filter_nil, List.append_nil]
        exact h1
  · rw [List.length_map, List.take_length] at h1
    exact hq H5 D h1 h5 nD
end
theorem yes {σ : L2.St} {H : Hp} {A B : Hp → Prop} (h : A H) : tYes σ H fun k H3 => if k = true then A H3 else B H3 := by
  unfold tYes
  show if true = true then A H else B H
  rw [if_pos rfl]
  exact h
theorem srt {K : PySem.W.Frag} {H : Hp} {Q : VK} {a : Addr} {ns : List Int} (h : SqL K H a (ns.map V.int)) (q : ∀ (ns' : List Int) H' p, ns'.Perm ns → ns'.Pairwise (· ≤ ·) → Same H H' → H p = none → H' p = some (.lst (ns'.map V.int)) → Q (.ref p) H') : rSortedI K [.ref a] H Q :=
  ⟨a, ns, rfl, h, fun ns' p pm s n => q ns' _ p pm s (same_upd n) n upd_same⟩
theorem eqInts {K : PySem.W.Frag} {H : Hp} {Q : VK} {p q : Addr} {ns ms : List Int} (h1 : SqL K H p (ns.map V.int)) (h2 : SqL K H q (ms.map V.int)) (h : Q (.bl (decide (ns = ms))) H) : rEqD K (.ref p) (.ref q) H Q := by
  refine ⟨_, _, .lst h1 (dp_ints ns), .lst h2 (dp_ints ms), shaped_ints ns, shaped_ints ms, ?_⟩
  have e : PyData.eqv (.list (ns.map PyData.int)) (.list (ms.map PyData.int)) = decide (ns = ms) := by
    have h := eqB (ns := ns) (ms := ms)
    rw [PyData.eqv] at h
    rw [PyData.eqv]
    exact h
  rw [e]
  exact h
theorem neInts {K : PySem.W.Frag} {H : Hp} {Q : VK} {p q : Addr} {ns ms : List Int} (h1 : SqL K H p (ns.map V.int)) (h2 : SqL K H q (ms.map V.int)) (h : Q (.bl (!decide (ns = ms))) H) : rNeD K (.ref p) (.ref q) H Q := by
  refine ⟨_, _, .lst h1 (dp_ints ns), .lst h2 (dp_ints ms), shaped_ints ns, shaped_ints ms, ?_⟩
  have e : PyData.eqv (.list (ns.map PyData.int)) (.list (ms.map PyData.int)) = decide (ns = ms) := by
    have h := eqB (ns := ns) (ms := ms)
    rw [PyData.eqv] at h
    rw [PyData.eqv]
    exact h
  rw [e]
  exact h
end R
theorem srtQ {X : Cx} (K : PySem.W.Frag) (h : X.K = K := by rfl) : CallR X (.builtin "sorted") (rSortedI K) := by
  subst h
  exact cr_sortedI

/-! ### lists of pairs of ints -/
inductive Pd (H : Hp) : List V → List (Int × Int) → Prop where
  | nil : Pd H [] []
  | cons {a : Addr} {p : Int × Int} {vs : List V} {ps : List (Int × Int)} : H a = some (.tup [.int p.1, .int p.2]) → Pd H vs ps → Pd H (.ref a :: vs) (p :: ps)
def pL (p : Int × Int) : List Int := [p.1, p.2]
theorem pL_inj {p q : Int × Int} (h : pL p = pL q) : p = q := by
  unfold pL at h
  injection h with h1 h2
  injection h2 with h2 _
  exact Prod.ext h1 h2
theorem Pd.mono {H H' : Hp} (s : ∀ b xs, H b = some (.tup xs) → H' b = some (.tup xs)) : ∀ {vs : List V} {ps : List (Int × Int)}, Pd H vs ps → Pd H' vs ps
  | _, _, .nil => .nil
  | _, _, .cons h t => .cons (s _ _ h) (t.mono s)
theorem Pd.same {H H' : Hp} {vs : List V} {ps : List (Int × Int)} (h : Pd H vs ps) (s : Same H H') : Pd H' vs ps := h.mono fun _ _ e => s _ _ e
theorem Pd.len {H : Hp} : ∀ {vs : List V} {ps : List (Int × Int)}, Pd H vs ps → vs.length = ps.length
  | _, _, .nil => rfl
  | _, _, .cons _ t => by rw [List.length_cons, List.length_cons, t.len]
theorem Pd.snoc {H : Hp} {a : Addr} {p : Int × Int} (s : H a = some (.tup [.int p.1, .int p.2])) : ∀ {vs : List V} {ps : List (Int × Int)}, Pd H vs ps → Pd H (vs ++ [.ref a]) (ps ++ [p])
  | _, _, .nil => .cons s .nil
  | _, _, .cons h t => .cons h (t.snoc s)
theorem Pd.tps {K : PySem.W.Frag} {H : Hp} : ∀ {vs : List V} {ps : List (Int × Int)}, Pd H vs ps → Tps K H vs (ps.map pL)
  | _, _, .nil => .nil
  | _, _, .cons h t => .cons (SqT.of h) t.tps
theorem Pd.off {H : Hp} {D : Addr} {xs ys : List V} {vs : List V} {ps : List (Int × Int)} (h : Pd H vs ps) (hD : H D = some (.lst xs)) : Pd (upd H D (.lst ys)) vs ps := h.mono fun b zs e => by
  rw [upd_ne (ne_of e hD (by intro z; cases z))]
  exact e
theorem map_pL_eq {ps qs : List (Int × Int)} : ps.map pL = qs.map pL ↔ ps = qs := by
  constructor
  · intro h
    induction ps generalizing qs with
    | nil =>
      cases qs with
      | nil => rfl
      | cons q qs => cases h
    | cons p ps ih =>
      cases qs with
      | nil => cases h
      | cons q qs =>
        injection h with h1 h2
        rw [pL_inj h1, ih h2]
  · rintro rfl
    rfl
theorem mem_pL {p : Int × Int} {ps : List (Int × Int)} : pL p ∈ ps.map pL ↔ p ∈ ps := by
  rw [List.mem_map]
  constructor
  · rintro ⟨q, hq, e⟩
    rw [← pL_inj e]
    exact hq
  · intro h
    exact ⟨p, h, rfl⟩
/-- the order of pairs -/
def ltp (p q : Int × Int) : Prop := p.1 < q.1 ∨ (p.1 = q.1 ∧ p.2 < q.2)
theorem ltp_ext : ∀ {l m : List (Int × Int)}, l.Pairwise ltp → m.Pairwise ltp → (∀ x, x ∈ l ↔ x ∈ m) → l = m
  | [], [], _, _, _ => rfl
  | [], b :: m, _, _, h => absurd ((h b).mpr List.mem_cons_self) (by simp)
  | a :: l, [], _, _, h => absurd ((h a).mp List.mem_cons_self) (by simp)
  | a :: l, b :: m, h1, h2, h => by
    obtain ⟨a1, a2⟩ := List.pairwise_cons.mp h1
    obtain ⟨b1, b2⟩ := List.pairwise_cons.mp h2
    have e : a = b := by
      rcases List.mem_cons.mp ((h a).mp List.mem_cons_self) with k | k
      · exact k
      · rcases List.mem_cons.mp ((h b).mpr List.mem_cons_self) with k2 | k2
        · exact k2.symm
        · have x1 := a1 b k2
          have x2 := b1 a k
          unfold ltp at x1 x2
          omega
    subst e
    rw [ltp_ext a2 b2 fun x => ?_]
    constructor
    · intro hx
      rcases List.mem_cons.mp ((h x).mp (List.mem_cons_of_mem _ hx)) with k | k
      · have x1 := a1 x hx
        rw [k] at x1
        unfold ltp at x1
        omega
      · exact k
    · intro hx
      rcases List.mem_cons.mp ((h x).mpr (List.mem_cons_of_mem _ hx)) with k | k
      · have x1 := b1 x hx
        rw [k] at x1
        unfold ltp at x1
        omega
      · exact k
def kH (H : Hp) : V → Int × Int
  | .ref a => match H a with
    | some (.tup [.int x, .int y]) => (x, y)
    | _ => (0, 0)
  | _ => (0, 0)
theorem kH_at {H : Hp} {a : Addr} {x y : Int} (h : H a = some (.tup [.int x, .int y])) : kH H (.ref a) = (x, y) := by
  show (match H a with | some (.tup [.int x, .int y]) => (x, y) | _ => ((0 : Int), (0 : Int))) = (x, y)
  rw [h]
theorem Pd.keys {H : Hp} : ∀ {vs : List V} {ps : List (Int × Int)}, Pd H vs ps → vs.map (kH H) = ps
  | _, _, .nil => rfl
  | _, _, .cons h t => by rw [List.map_cons, kH_at h, t.keys]
theorem Pd.mem {H : Hp} : ∀ {vs : List V} {ps : List (Int × Int)}, Pd H vs ps → ∀ x ∈ vs, ∃ t, x = V.ref t ∧ H t = some (.tup [.int (kH H x).1, .int (kH H x).2])
  | _, _, .nil, x, h => by cases h
  | _, _, .cons h t, x, hx => by
    rcases List.mem_cons.mp hx with rfl | hx
    · exact ⟨_, rfl, by rw [kH_at h]; exact h⟩
    · exact t.mem x hx
theorem pd_of {H : Hp} : ∀ {vs : List V}, (∀ x ∈ vs, ∃ t, x = V.ref t ∧ H t = some (.tup [.int (kH H x).1, .int (kH H x).2])) → Pd H vs (vs.map (kH H))
  | [], _ => .nil
  | v :: vs, h => by
    obtain ⟨t, rfl, ht⟩ := h v List.mem_cons_self
    exact .cons ht (pd_of fun x hx => h x (List.mem_cons_of_mem _ hx))
theorem kp_seqTL {K : PySem.W.Frag} {H H' : Hp} {p b : Addr} {ys xs : List V} (f : Kp p H H') (hp : H p = some (.lst ys)) (h : SqT K H b xs) : SqT K H' b xs := by
  rcases h with (h | ⟨o, h⟩) | h
  · refine .inl (.inl (f _ _ ?_ h))
    rintro rfl
    rw [hp] at h
    cases h
  · refine .inl (.inr ⟨o, f _ _ ?_ h⟩)
    rintro rfl
    rw [hp] at h
    cases h
  · exact .inr h
namespace R
theorem srtP {K : PySem.W.Frag} {H : Hp} {Q : VK} {a : Addr} {vs : List V} {ps : List (Int × Int)} (h : SqL K H a vs) (hp : Pd H vs ps) (hn : ps.Nodup)
    (q : ∀ ws qs H' p, Pd H' ws qs → qs.Perm ps → qs.Pairwise ltp → Same H H' → H p = none → H' p = some (.lst ws) → Q (.ref p) H') : rSortedPO K [.ref a] H Q := by
  refine ⟨a, vs, kH H, rfl, h, hp.mem, fun ys p srt stb np => ?_⟩
  have pm : ys.Perm vs := stb.perm
  have hy := pd_of (H := H) (vs := ys) fun x hx => hp.mem x (pm.mem_iff.mp hx)
  have pq : (ys.map (kH H)).Perm ps := by
    rw [← hp.keys]
    exact pm.map _
  refine q ys (ys.map (kH H)) _ p (hy.same (same_upd np)) pq ?_ (same_upd np) np upd_same
  have hnd := pq.nodup_iff.mpr hn
  have h2 : (ys.map (kH H)).Pairwise (fun x y => SrtO.lexB y x = false) := List.pairwise_map.mpr srt
  refine List.Pairwise.imp ?_ (h2.and hnd)
  intro x y ⟨h3, h4⟩
  have h5 := SrtO.lexB_no.mp h3
  unfold ltp
  by_cases e1 : x.1 = y.1
  · by_cases e2 : x.2 = y.2
    · exact absurd (Prod.ext e1 e2) h4
    · omega
  · omega
end R
theorem srtPQ {X : Cx} (K : PySem.W.Frag) (h : X.K = K := by rfl) : CallR X (.builtin "sorted") (rSortedPO K) := by
  subst h
  exact cr_sortedPO

/-! ### loops over two fors -/
theorem out_list {K : PySem.W.Frag} {a : Addr} {xs : List V} {F : V → Hp → (Hp → Prop) → Prop} {H0 : Hp} {Qd : Hp → Prop} (Pv : Nat → Hp → Prop) (h0 : Pv 0 H0) (hl : ∀ i H, i ≤ xs.length → Pv i H → SqL K H a xs)
    (hs : ∀ i x H, xs[i]? = some x → Pv i H → F x H (Pv (i + 1))) (hd : ∀ H, Pv xs.length H → Qd H) :
    ∃ W : Nat → Nat → Hp → Prop, (∃ m, W 0 m H0) ∧ ∀ i m H, W i m H → ((Itl K a).stop i H ∧ Qd H) ∨ ((Itl K a).go i H ∧ ∃ Nx : Hp → Prop, (∀ H', Nx H' → ∃ m', m' < m ∧ W (i + 1) m' H') ∧ ∀ x H', (Itl K a).yld i H x H' → F x H' Nx) := by
  refine ⟨fun i m H => m = xs.length - i ∧ i ≤ xs.length ∧ Pv i H, ⟨xs.length, by simp, Nat.zero_le _, h0⟩, ?_⟩
  rintro i m H ⟨rfl, hi, p⟩
  have q := hl i H hi p
  by_cases hlt : i < xs.length
  · refine .inr ⟨⟨xs, xs[i], q, by simp [hlt]⟩, Pv (i + 1), fun H' p' => ⟨xs.length - (i + 1), by omega, rfl, hlt, p'⟩, fun x H' y => ?_⟩
    obtain ⟨e, y⟩ := y
    subst e
    exact hs i x _ (y xs q) p
  · have e : i = xs.length := by omega
    subst e
    exact .inl ⟨⟨xs, q, Nat.le_refl _⟩, hd H p⟩
theorem out_range {lo : Int} {n : Nat} {F : V → Hp → (Hp → Prop) → Prop} {H0 : Hp} {Qd : Hp → Prop} (Pv : Nat → Hp → Prop) (h0 : Pv 0 H0)
    (hs : ∀ i H, i < n → Pv i H → F (.int (lo + (i : Nat))) H (Pv (i + 1))) (hd : ∀ H, Pv n H → Qd H) :
    ∃ W : Nat → Nat → Hp → Prop, (∃ m, W 0 m H0) ∧ ∀ i m H, W i m H → ((Itr lo n).stop i H ∧ Qd H) ∨ ((Itr lo n).go i H ∧ ∃ Nx : Hp → Prop, (∀ H', Nx H' → ∃ m', m' < m ∧ W (i + 1) m' H') ∧ ∀ x H', (Itr lo n).yld i H x H' → F x H' Nx) := by
  refine ⟨fun i m H => m = n - i ∧ i ≤ n ∧ Pv i H, ⟨n, by simp, Nat.zero_le _, h0⟩, ?_⟩
  rintro i m H ⟨rfl, hi, p⟩
  by_cases hlt : i < n
  · refine .inr ⟨hlt, Pv (i + 1), fun H' p' => ⟨n - (i + 1), by omega, rfl, hlt, p'⟩, fun x H' y => ?_⟩
    obtain ⟨e, y⟩ := y
    subst e y
    exact hs i _ hlt p
  · have e : i = n := by omega
    subst e
    exact .inl ⟨Nat.le_refl _, hd H p⟩

/-! ### whole roots -/
section
variable {X : Cx}
theorem cr_isqrt : CallR X (.builtin "math.isqrt") (fun vs H Q => ∃ i : Int, vs = [.int i] ∧ 0 ≤ i ∧ i.natAbs < 2 ^ 13000 ∧ Q (.int ((Float64.isqrt i.toNat : Nat) : Int)) H) := by
  intro pins s σ H vs us Q I r h
  obtain ⟨i, rfl, h0, h1, q⟩ := h
  obtain ⟨u, rfl, t, rfl⟩ := vals1 r
  have hl : i.toNat.log2 < 13000 := PySem.Flt.log2_lt_of (by decide) (by omega)
  exact call_function_meets PySem.W.MGF.kind_isqrt PySem.W.MGF.plain_isqrt PySem.W.MGF.entry_isqrt (PySem.W.MGF.args_isqrt _) (PySem.W.mg_run_isqrt i t (by omega) (by omega) (by omega)).meets ⟨.int _, H, I.tok _, ⟨_, rfl⟩, q⟩
end
def rootI (n : Int) : Int := ((Float64.isqrt n.toNat : Nat) : Int)
theorem rootI_spec {n : Int} (h : 0 ≤ n) : 0 ≤ rootI n ∧ rootI n * rootI n ≤ n ∧ n < (rootI n + 1) * (rootI n + 1) := by
  obtain ⟨k, rfl⟩ := Int.eq_ofNat_of_zero_le h
  have e := Float64.isqrt_spec k
  unfold rootI
  have e2 : Int.toNat (k : Int) = k := rfl
  rw [e2]
  generalize Float64.isqrt k = m at e ⊢
  refine ⟨Int.natCast_nonneg m, ?_, ?_⟩
  · exact_mod_cast e.1
  · exact_mod_cast e.2
theorem rootI_lt {n : Int} {b : Nat} (h : 0 ≤ n) (hb : n.natAbs < 2 ^ b) : (rootI n).natAbs < 2 ^ b := by
  obtain ⟨h0, h1, h2⟩ := rootI_spec h
  have h3 : rootI n ≤ n := by
    by_cases e : rootI n = 0
    · omega
    · have h4 : 1 * rootI n ≤ rootI n * rootI n := Int.mul_le_mul_of_nonneg_right (by omega) h0
      omega
  omega
/-! ### common measures -/
def gI (a b : Int) : Int := ((Nat.gcd a.natAbs b.natAbs : Nat) : Int)
theorem gI_nn (a b : Int) : 0 ≤ gI a b := Int.natCast_nonneg _
theorem gI_lt {a b : Int} {B : Nat} (ha : a.natAbs < B) (hb : b.natAbs < B) : (gI a b).natAbs < B := by
  unfold gI
  rw [Int.natAbs_natCast]
  by_cases h : a.natAbs = 0
  · rw [h, Nat.gcd_zero_left]
    exact hb
  · exact Nat.lt_of_le_of_lt (Nat.gcd_le_left _ (by omega)) ha
def gL (ns : List Int) : Int := ns.foldl gI 0
theorem gL_take {ns : List Int} {i : Nat} {x : Int} (h : ns[i]? = some x) : gL (ns.take (i + 1)) = gI (gL (ns.take i)) x := by
  unfold gL
  rw [List.take_add_one, h, List.foldl_append]
  rfl
/-- one step of the walk of measures: what // and the rest are -/
theorem fd_rest {g r : Int} (h : r ≠ 0) : (g - g.fdiv r * r).natAbs < r.natAbs ∧ (0 < r → 0 ≤ g - g.fdiv r * r) ∧ (r < 0 → g - g.fdiv r * r ≤ 0) := by
  have e : g - g.fdiv r * r = g.fmod r := by
    rw [Int.fmod_def, Int.mul_comm]
  rw [e]
  by_cases hr : 0 < r
  · have h1 := Int.fmod_nonneg_of_pos g hr
    have h2 := Int.fmod_lt_of_pos g hr
    refine ⟨by omega, fun _ => h1, fun _ => by omega⟩
  · have h1 := Int.fmod_nonneg_of_pos (-g) (b := -r) (by omega)
    have h2 := Int.fmod_lt_of_pos (-g) (b := -r) (by omega)
    rw [Int.neg_fmod_neg] at h1 h2
    refine ⟨by omega, fun _ => by omega, fun _ => by omega⟩
theorem gcd_step (g q r : Int) : Nat.gcd r.natAbs (g - q * r).natAbs = Nat.gcd g.natAbs r.natAbs := by
  have e1 : Int.gcd r (g - q * r) = Int.gcd r g := by
    rw [Int.sub_eq_add_neg, ← Int.neg_mul]
    exact Int.gcd_add_mul_right_right ..
  have e2 : Int.gcd r g = Int.gcd g r := Int.gcd_comm r g
  exact e1.trans e2
theorem step_lt {g rest u ru q r B : Nat} (hg : g = q * rest + r) (h : ru * g + u * rest ≤ B) : (u + q * ru) * rest + ru * r ≤ B := by
  have e : (u + q * ru) * rest + ru * r = ru * g + u * rest := by
    rw [hg, Nat.add_mul, Nat.mul_add, Nat.mul_comm q ru, Nat.mul_assoc]
    omega
  omega
/-- the state of bezout's walk -/
def Bz (a b g u v r ru rv : Int) : Prop := u * a + v * b = g ∧ ru * a + rv * b = r ∧ (((Nat.gcd g.natAbs r.natAbs : Nat) : Int) = gI a b ∧ u.natAbs ≤ a.natAbs + 2 * b.natAbs + 1 ∧ v.natAbs ≤ a.natAbs + 2 * b.natAbs + 1) ∧
  ((g = a ∧ r = b ∧ u = 1 ∧ v = 0 ∧ ru = 0 ∧ rv = 1) ∨
    (((0 ≤ g ∧ 0 ≤ r) ∨ (g ≤ 0 ∧ r ≤ 0)) ∧ g.natAbs ≤ b.natAbs ∧ r.natAbs < g.natAbs ∧
      ru.natAbs * g.natAbs + u.natAbs * r.natAbs ≤ a.natAbs + 2 * b.natAbs ∧ rv.natAbs * g.natAbs + v.natAbs * r.natAbs ≤ a.natAbs + 2 * b.natAbs))
theorem same_div {g r : Int} (h : (0 ≤ g ∧ 0 < r) ∨ (g ≤ 0 ∧ r < 0)) : g.natAbs = (g.fdiv r).natAbs * r.natAbs + (g - g.fdiv r * r).natAbs := by
  have hr : r ≠ 0 := by omega
  obtain ⟨h1, h2, h3⟩ := fd_rest (g := g) hr
  have hq : 0 ≤ g.fdiv r := by
    rcases h with ⟨a, b⟩ | ⟨a, b⟩
    · exact Int.fdiv_nonneg a (by omega)
    · rw [← Int.neg_fdiv_neg]
      exact Int.fdiv_nonneg (by omega) (by omega)
  obtain ⟨q, e⟩ := Int.eq_ofNat_of_zero_le hq
  rw [e] at h2 h3 ⊢
  rcases h with ⟨a, b⟩ | ⟨a, b⟩
  · have k := h2 b
    have z : g = (q : Int) * r + (g - (q : Int) * r) := by omega
    obtain ⟨r', rfl⟩ := Int.eq_ofNat_of_zero_le (show 0 ≤ r by omega)
    have e2 : ((q * r' : Nat) : Int) = (q : Int) * (r' : Int) := Int.natCast_mul q r'
    rw [Int.natAbs_natCast, Int.natAbs_natCast]
    rw [← e2] at k ⊢
    omega
  · have k := h3 b
    obtain ⟨r', hr'⟩ := Int.eq_ofNat_of_zero_le (show 0 ≤ -r by omega)
    have er : r = -(r' : Int) := by omega
    subst er
    have e2 : ((q * r' : Nat) : Int) = (q : Int) * (r' : Int) := Int.natCast_mul q r'
    rw [Int.mul_neg, ← e2] at k ⊢
    rw [Int.natAbs_natCast, Int.natAbs_neg, Int.natAbs_natCast]
    omega
theorem abs_sub_mul (u q ru : Int) : (u - q * ru).natAbs ≤ u.natAbs + q.natAbs * ru.natAbs := by
  rw [← Int.natAbs_mul]
  omega
theorem natAbs_tri {g q r : Int} (k : (g - q).natAbs < r.natAbs) : q.natAbs ≤ g.natAbs + r.natAbs := by omega
theorem bz_q {g r : Int} (hr : r ≠ 0) : (g.fdiv r).natAbs ≤ g.natAbs + 1 ∧ (g.fdiv r).natAbs * r.natAbs ≤ g.natAbs + r.natAbs := by
  obtain ⟨k1, _, _⟩ := fd_rest (g := g) hr
  have z2 : (g.fdiv r).natAbs * r.natAbs ≤ g.natAbs + r.natAbs := by
    rw [← Int.natAbs_mul]
    exact natAbs_tri k1
  have r1 : 1 ≤ r.natAbs := by omega
  clear k1 hr
  refine ⟨?_, z2⟩
  generalize (g.fdiv r).natAbs = q at *
  generalize g.natAbs = G at *
  generalize r.natAbs = R at *
  by_cases z : q ≤ G + 1
  · exact z
  · have z4 : (G + 2) * R ≤ q * R := Nat.mul_le_mul_right _ (by omega)
    have z5 : G * 1 ≤ G * R := Nat.mul_le_mul_left _ r1
    rw [Nat.add_mul] at z4
    omega
theorem bz_le {A B G R U W q : Nat} (z3 : q ≤ G + 1) (e2 : G ≤ B) (e3 : R < G) (e4 : U * G + W * R ≤ A + 2 * B) : q ≤ A + B + 1 ∧ R ≤ B ∧ U ≤ A + 2 * B + 1 := by
  have z4 : U * 1 ≤ U * G := Nat.mul_le_mul_left _ (by omega)
  exact ⟨by omega, by omega, by omega⟩
theorem Bz.size {a b g u v r ru rv : Int} (h : Bz a b g u v r ru rv) (hr : r ≠ 0) : (g.fdiv r).natAbs ≤ a.natAbs + b.natAbs + 1 ∧ r.natAbs ≤ b.natAbs ∧ ru.natAbs ≤ a.natAbs + 2 * b.natAbs + 1 ∧ rv.natAbs ≤ a.natAbs + 2 * b.natAbs + 1 := by
  obtain ⟨h1, h2, h3, h4⟩ := h
  obtain ⟨z3, z2⟩ := bz_q (g := g) hr
  clear h1 h2 h3
  rcases h4 with ⟨e1, e2, e3, e4, e5, e6⟩ | ⟨e1, e2, e3, e4, e5⟩
  · subst e1 e2 e5 e6
    clear z2 hr e3 e4
    generalize (g.fdiv r).natAbs = q at *
    generalize g.natAbs = G at *
    generalize r.natAbs = R at *
    exact ⟨by omega, Nat.le_refl _, Nat.zero_le _, by show 1 ≤ _; omega⟩
  · obtain ⟨q1, q2, q3⟩ := bz_le z3 e2 e3 e4
    exact ⟨q1, q2, q3, (bz_le z3 e2 e3 e5).2.2⟩
theorem bz_lin (u v a b ru rv q : Int) : (u - q * ru) * a + (v - q * rv) * b = u * a + v * b - q * (ru * a + rv * b) := by
  rw [Int.sub_mul, Int.sub_mul, Int.mul_add, Int.mul_assoc, Int.mul_assoc]
  omega
theorem bz_sg {g r : Int} (hr : r ≠ 0) (h : (0 ≤ g ∧ 0 ≤ r) ∨ (g ≤ 0 ∧ r ≤ 0)) : (0 ≤ g ∧ 0 < r) ∨ (g ≤ 0 ∧ r < 0) := by omega
theorem bz_first {g r : Int} (hr : r ≠ 0) : (0 - g.fdiv r * 1).natAbs * r.natAbs + Int.natAbs 1 * (g - g.fdiv r * r).natAbs ≤ g.natAbs + 2 * r.natAbs := by
  obtain ⟨_, z2⟩ := bz_q (g := g) hr
  obtain ⟨k1, _, _⟩ := fd_rest (g := g) hr
  have z : (0 - g.fdiv r * 1).natAbs = (g.fdiv r).natAbs := by omega
  rw [z, show Int.natAbs 1 = 1 from rfl, Nat.one_mul]
  generalize (g.fdiv r).natAbs * r.natAbs = Y at *
  generalize (g - g.fdiv r * r).natAbs = Z at *
  generalize g.natAbs = G at *
  generalize r.natAbs = R at *
  clear z hr
  omega
theorem Bz.step {a b g u v r ru rv : Int} (h : Bz a b g u v r ru rv) (hr : r ≠ 0) : Bz a b r ru rv (g - g.fdiv r * r) (u - g.fdiv r * ru) (v - g.fdiv r * rv) := by
  have sz := h.size hr
  obtain ⟨h1, h2, h3, h4⟩ := h
  obtain ⟨k1, k2, k3⟩ := fd_rest (g := g) hr
  refine ⟨h2, ?_, ⟨by rw [gcd_step]; exact h3.1, sz.2.2⟩, .inr ⟨?_, ?_, k1, ?_, ?_⟩⟩
  · rw [bz_lin, h1, h2]
  · clear h1 h2 h3 h4 sz k1
    by_cases z : 0 < r
    · exact .inl ⟨Int.le_of_lt z, k2 z⟩
    · exact .inr ⟨Int.not_lt.mp z, k3 (by omega)⟩
  · rcases h4 with ⟨e1, e2, _⟩ | ⟨_, e2, e3, _⟩
    · rw [e2]
      exact Nat.le_refl _
    · exact Nat.le_of_lt (Nat.lt_of_lt_of_le e3 e2)
  · rcases h4 with ⟨e1, e2, e3, e4, e5, e6⟩ | ⟨e1, e2, e3, e4, e5⟩
    · clear h1 h2 h3 sz k1 k2 k3 e1 e4 e6 hr
      rw [e3, e5, e2]
      simp
      omega
    · exact Nat.le_trans (Nat.add_le_add_right (Nat.mul_le_mul_right _ (abs_sub_mul u (g.fdiv r) ru)) _) (step_lt (same_div (bz_sg hr e1)) e4)
  · rcases h4 with ⟨e1, e2, e3, e4, e5, e6⟩ | ⟨e1, e2, e3, e4, e5⟩
    · rw [e4, e6, ← e1, ← e2]
      exact bz_first hr
    · exact Nat.le_trans (Nat.add_le_add_right (Nat.mul_le_mul_right _ (abs_sub_mul v (g.fdiv r) rv)) _) (step_lt (same_div (bz_sg hr e1)) e5)

/-! ### the law's own root -/
theorem rootI_uniq {n r : Int} (h : 0 ≤ n) (h0 : 0 ≤ r) (h1 : r * r ≤ n) (h2 : n < (r + 1) * (r + 1)) : r = rootI n := by
  obtain ⟨k0, k1, k2⟩ := rootI_spec h
  generalize rootI n = s at k0 k1 k2 ⊢
  by_cases a : r < s
  · have z : (r + 1) * (r + 1) ≤ s * s := Int.mul_le_mul (by omega) (by omega) (by omega) (by omega)
    omega
  · by_cases b : s < r
    · have z : (s + 1) * (s + 1) ≤ r * r := Int.mul_le_mul (by omega) (by omega) (by omega) (by omega)
      omega
    · omega
theorem half_step {low high n : Int} {i : Nat} (h : low + 1 < high) (hi : (high - low - 1) * 2 ^ i ≤ n) : ((low + high) / 2 - low - 1) * 2 ^ (i + 1) ≤ n ∧ (high - (low + high) / 2 - 1) * 2 ^ (i + 1) ≤ n ∧ low < (low + high) / 2 ∧ (low + high) / 2 < high := by
  have e : (2 : Int) ^ (i + 1) = 2 * 2 ^ i := by rw [Int.pow_succ, Int.mul_comm]
  have p0 : (0 : Int) < 2 ^ i := Int.pow_pos (by decide)
  rw [e]
  generalize (2 : Int) ^ i = B at hi p0 ⊢
  have m1 : (low + high) / 2 - low - 1 ≤ (high - low - 1) / 2 := by omega
  have m2 : high - (low + high) / 2 - 1 ≤ (high - low - 1) / 2 := by omega
  have m3 : 2 * ((high - low - 1) / 2) ≤ high - low - 1 := by omega
  refine ⟨?_, ?_, by omega, by omega⟩
  · have a1 : ((low + high) / 2 - low - 1) * (2 * B) = (2 * ((low + high) / 2 - low - 1)) * B := by grind
    have a2 : (2 * ((low + high) / 2 - low - 1)) * B ≤ (high - low - 1) * B := Int.mul_le_mul_of_nonneg_right (by omega) (by omega)
    omega
  · have a1 : (high - (low + high) / 2 - 1) * (2 * B) = (2 * (high - (low + high) / 2 - 1)) * B := by grind
    have a2 : (2 * (high - (low + high) / 2 - 1)) * B ≤ (high - low - 1) * B := Int.mul_le_mul_of_nonneg_right (by omega) (by omega)
    omega

/-! ### continued fractions -/
def partI (p q root : Int) : Int := if 0 < q then (p + root).fdiv q else (p + root + 1).fdiv q
def nxt (d root : Int) (s : Int × Int) : Int × Int := (partI s.1 s.2 root * s.2 - s.1, (d - (partI s.1 s.2 root * s.2 - s.1) * (partI s.1 s.2 root * s.2 - s.1)).fdiv s.2)
def cf (d root : Int) (s : Int × Int) : Nat → Int × Int
  | 0 => s
  | k + 1 => nxt d root (cf d root s k)
def cfa (d : Int) (s : Int × Int) (i : Nat) : Int := partI (cf d (rootI d) s i).1 (cf d (rootI d) s i).2 (rootI d)
/-- what the walk of expand wants -/
def ExOk (p q d : Int) (n j : Nat) : Prop := 0 ≤ d ∧ d < 2 ^ 60 ∧ rootI d * rootI d ≠ d ∧ q ≠ 0 ∧ (d - p * p).fmod q = 0 ∧ j < n ∧ n ≤ 100000 ∧ cf d (rootI d) (p, q) n = cf d (rootI d) (p, q) j ∧
  (∀ a b, a < b → b < n → cf d (rootI d) (p, q) a ≠ cf d (rootI d) (p, q) b) ∧ ∀ i, i ≤ n → (cf d (rootI d) (p, q) i).1.natAbs < 2 ^ 60 ∧ (cf d (rootI d) (p, q) i).2.natAbs < 2 ^ 60 ∧ (cf d (rootI d) (p, q) i).2 ≠ 0
def ckey (s : Int × Int) : List Key := [.inl s.1, .inl s.2]
theorem ckey_inj {s t : Int × Int} (h : ckey s = ckey t) : s = t := by
  unfold ckey at h
  injection h with h1 h2
  injection h2 with h2 _
  injection h1 with h1
  injection h2 with h2
  exact Prod.ext h1 h2
def ckv (f : Nat → Int × Int) (n : Nat) : List (List Key × V) := (List.range n).map fun i => (ckey (f i), V.int (i : Int))
theorem ckv_succ (f : Nat → Int × Int) (n : Nat) : ckv f (n + 1) = ckv f n ++ [(ckey (f n), V.int (n : Int))] := by
  unfold ckv
  rw [List.range_succ, List.map_append]
  rfl
theorem ckv_len (f : Nat → Int × Int) (n : Nat) : (ckv f n).length = n := by
  unfold ckv
  rw [List.length_map, List.length_range]
theorem valV_app {κ : Type} [DecidableEq κ] (xs : List (κ × V)) (k : κ) (v : V) (k' : κ) : valV (xs ++ [(k, v)]) k' = (match valV xs k' with | some z => some z | none => if k = k' then some v else none) := by
  unfold valV
  rw [List.find?_append]
  cases h : xs.find? fun kv => decide (kv.1 = k') with
  | some z => rfl
  | none =>
    by_cases e : k = k'
    · simp [e]
    · simp [e]
theorem ckv_none {f : Nat → Int × Int} : ∀ {n : Nat} {s : Int × Int}, (∀ i, i < n → f i ≠ s) → valV (ckv f n) (ckey s) = none
  | 0, _, _ => rfl
  | n + 1, s, h => by
    rw [ckv_succ, valV_app, ckv_none fun i hi => h i (by omega)]
    exact if_neg fun e => h n (by omega) (ckey_inj e)
theorem ckv_some {f : Nat → Int × Int} {s : Int × Int} {j : Nat} (hj : f j = s) : ∀ {n : Nat}, j < n → (∀ i, i < j → f i ≠ s) → valV (ckv f n) (ckey s) = some (.int (j : Int))
  | 0, h, _ => absurd h (by omega)
  | n + 1, h, k => by
    rw [ckv_succ, valV_app]
    by_cases e : j < n
    · rw [ckv_some hj e k]
    · have e1 : j = n := by omega
      subst e1
      rw [ckv_none k]
      exact if_pos (congrArg ckey hj)
theorem ckv_put {f : Nat → Int × Int} {n : Nat} (h : ∀ i, i < n → f i ≠ f n) : putK (ckv f n) (ckey (f n)) (.int (n : Int)) = ckv f (n + 1) := by
  unfold putK
  rw [valV_any, ckv_none h, ckv_succ]
  exact if_neg Bool.false_ne_true
/-! ### reduced pairs -/
structure Red (d root P Q : Int) : Prop where
  q0 : 0 < Q
  p1 : P ≤ root
  lo : root - P < Q
  hi : Q ≤ root + P
  dv : Q ∣ d - P * P
theorem partI_pos {p q root : Int} (h : 0 < q) : partI p q root = (p + root) / q := by
  unfold partI
  rw [if_pos h, Int.fdiv_eq_ediv_of_nonneg _ (by omega)]
theorem nxt_exact {d root P Q : Int} (h : Q ≠ 0) (dv : Q ∣ d - P * P) : (nxt d root (P, Q)).2 * Q = d - (nxt d root (P, Q)).1 * (nxt d root (P, Q)).1 := by
  obtain ⟨c, hc⟩ := dv
  unfold nxt
  show (d - (partI P Q root * Q - P) * (partI P Q root * Q - P)).fdiv Q * Q = d - (partI P Q root * Q - P) * (partI P Q root * Q - P)
  generalize partI P Q root = a
  refine Int.fdiv_mul_cancel_of_fmod_eq_zero (Int.fmod_eq_zero_of_dvd ⟨c - a * a * Q + 2 * a * P, ?_⟩)
  grind
theorem Red.step {d root P Q : Int} (r0 : 0 ≤ root) (h1 : root * root < d) (h2 : d < (root + 1) * (root + 1)) (R : Red d root P Q) : Red d root (nxt d root (P, Q)).1 (nxt d root (P, Q)).2 := by
  have ex := nxt_exact (root := root) (Int.ne_of_gt R.q0) R.dv
  obtain ⟨q0, p1, lo, hi, dv⟩ := R
  have e1 : (nxt d root (P, Q)).1 = (P + root) / Q * Q - P := by
    unfold nxt
    show partI P Q root * Q - P = _
    rw [partI_pos q0]
  generalize (nxt d root (P, Q)).1 = P' at ex e1 ⊢
  generalize (nxt d root (P, Q)).2 = Q' at ex ⊢
  have a1 : (P + root) / Q * Q ≤ P + root := Int.ediv_mul_le _ (by omega)
  have a2 : P + root < (P + root) / Q * Q + Q := by
    have z := Int.lt_ediv_add_one_mul_self (P + root) q0
    rw [Int.add_mul, Int.one_mul] at z
    exact z
  have a3 : 1 ≤ (P + root) / Q := by
    have z : 1 * Q ≤ P + root := by omega
    exact (Int.le_ediv_iff_mul_le q0).mpr z
  have a4 : 1 * Q ≤ (P + root) / Q * Q := Int.mul_le_mul_of_nonneg_right a3 (by omega)
  generalize (P + root) / Q * Q = aQ at a1 a2 a4 e1
  have b1 : P' ≤ root := by omega
  have b2 : root - Q < P' := by omega
  have b3 : -root < P' := by omega
  have b4 : Q ≤ root + P' := by omega
  have c1 : P' * P' ≤ root * root := by
    have z : 0 ≤ (root - P') * (root + P') := Int.mul_nonneg (by omega) (by omega)
    have z2 : (root - P') * (root + P') = root * root - P' * P' := by grind
    omega
  have c2 : 0 < Q' * Q := by omega
  have c3 : 0 < Q' := by
    by_cases z : 0 < Q'
    · exact z
    · have z2 : Q' * Q ≤ 0 * Q := Int.mul_le_mul_of_nonneg_right (by omega) (by omega)
      omega
  refine ⟨c3, b1, ?_, ?_, ?_⟩
  · by_cases z : root - P' < Q'
    · exact z
    · have z2 : Q' * Q ≤ (root - P') * (root + P') := Int.mul_le_mul (by omega) b4 (by omega) (by omega)
      have z3 : (root - P') * (root + P') = root * root - P' * P' := by grind
      omega
  · by_cases z : Q' ≤ root + P'
    · exact z
    · have z2 : (root + P' + 1) * (root - P' + 1) ≤ Q' * Q := Int.mul_le_mul (by omega) (by omega) (by omega) (by omega)
      have z3 : (root + P' + 1) * (root - P' + 1) = (root + 1) * (root + 1) - P' * P' := by grind
      omega
  · exact ⟨Q, by omega⟩
theorem Red.back {d root P Q P2 Q2 : Int} (R : Red d root P Q) (S : Red d root P2 Q2) (r0 : 0 ≤ root) (h1 : root * root < d) (h2 : d < (root + 1) * (root + 1)) (e : nxt d root (P, Q) = nxt d root (P2, Q2)) : P = P2 ∧ Q = Q2 := by
  have ex := nxt_exact (root := root) (Int.ne_of_gt R.q0) R.dv
  have ex2 := nxt_exact (root := root) (Int.ne_of_gt S.q0) S.dv
  have N := R.step r0 h1 h2
  have e1 : (nxt d root (P, Q)).1 = partI P Q root * Q - P := rfl
  have e2 : (nxt d root (P2, Q2)).1 = partI P2 Q2 root * Q2 - P2 := rfl
  rw [← e] at ex2 e2
  have n0 := N.q0
  generalize (nxt d root (P, Q)).1 = P' at ex ex2 e1 e2
  generalize (nxt d root (P, Q)).2 = Q' at ex ex2 n0
  have eq : Q = Q2 := Int.eq_of_mul_eq_mul_left (Int.ne_of_gt n0) (ex.trans ex2.symm)
  subst eq
  refine ⟨?_, rfl⟩
  have l1 := R.lo
  have l2 := S.lo
  have u1 := R.p1
  have u2 := S.p1
  have q0 := R.q0
  generalize partI P Q root = a at e1
  generalize partI P2 Q root = b at e2
  have e3 : (a - b) * Q = P - P2 := by
    rw [Int.sub_mul]
    omega
  by_cases z : a - b ≤ -1
  · have z2 : (a - b) * Q ≤ -1 * Q := Int.mul_le_mul_of_nonneg_right z (by omega)
    omega
  · by_cases z' : 1 ≤ a - b
    · have z2 : 1 * Q ≤ (a - b) * Q := Int.mul_le_mul_of_nonneg_right z' (by omega)
      omega
    · have z2 : a - b = 0 := by omega
      rw [z2, Int.zero_mul] at e3
      omega
/-! ### the root of d: from (0, 1) -/
section
variable {d root : Int}
theorem cf_one (hq : True) : cf d root (0, 1) 1 = (root, d - root * root) := by
  show nxt d root (0, 1) = _
  unfold nxt
  show (partI 0 1 root * 1 - 0, (d - (partI 0 1 root * 1 - 0) * (partI 0 1 root * 1 - 0)).fdiv 1) = _
  have e : partI 0 1 root * 1 - 0 = root := by
    rw [partI_pos (by decide)]
    simp
  rw [e, Int.fdiv_one]
theorem cf_red (r0 : 0 ≤ root) (h1 : root * root < d) (h2 : d < (root + 1) * (root + 1)) : ∀ k, Red d root (cf d root (0, 1) (k + 1)).1 (cf d root (0, 1) (k + 1)).2
  | 0 => by
    rw [cf_one trivial]
    have e : (root + 1) * (root + 1) = root * root + 2 * root + 1 := by grind
    exact ⟨by show 0 < d - root * root; omega, by show root ≤ root; omega, by show root - root < d - root * root; omega, by show d - root * root ≤ root + root; omega, ⟨1, by show d - root * root = (d - root * root) * 1; omega⟩⟩
  | k + 1 => (cf_red r0 h1 h2 k).step r0 h1 h2
theorem cf_exact (r0 : 0 ≤ root) (h1 : root * root < d) (h2 : d < (root + 1) * (root + 1)) : ∀ k, (cf d root (0, 1) (k + 1)).2 * (cf d root (0, 1) k).2 = d - (cf d root (0, 1) (k + 1)).1 * (cf d root (0, 1) (k + 1)).1
  | 0 => by
    rw [cf_one trivial]
    show (d - root * root) * 1 = d - root * root
    omega
  | k + 1 => by
    have R := cf_red r0 h1 h2 k
    exact nxt_exact (P := (cf d root (0, 1) (k + 1)).1) (Q := (cf d root (0, 1) (k + 1)).2) (Int.ne_of_gt R.q0) R.dv
theorem cf_again (l : Nat) (h : (cf d root (0, 1) l).2 = 1) : cf d root (0, 1) (l + 1) = cf d root (0, 1) 1 := by
  rw [cf_one trivial]
  show nxt d root (cf d root (0, 1) l) = _
  unfold nxt
  rw [h]
  generalize (cf d root (0, 1) l).1 = P
  have e : partI P 1 root * 1 - P = root := by
    rw [partI_pos (by decide)]
    simp
    omega
  rw [e, Int.fdiv_one]
theorem cf_shift (l : Nat) (h : (cf d root (0, 1) l).2 = 1) : ∀ k, cf d root (0, 1) (l + (k + 1)) = cf d root (0, 1) (k + 1)
  | 0 => cf_again l h
  | k + 1 => by
    show nxt d root (cf d root (0, 1) (l + (k + 1))) = nxt d root (cf d root (0, 1) (k + 1))
    rw [cf_shift l h k]
theorem cf_unlike (r0 : 0 ≤ root) (h1 : root * root < d) (h2 : d < (root + 1) * (root + 1)) {l : Nat} (hm : ∀ k, 1 ≤ k → k < l → (cf d root (0, 1) k).2 ≠ 1) : ∀ j i, j < i → i ≤ l → cf d root (0, 1) j ≠ cf d root (0, 1) i
  | 0, i, hij, hl, e => by
    obtain ⟨k, rfl⟩ : ∃ k, i = k + 1 := ⟨i - 1, by omega⟩
    have R := cf_red r0 h1 h2 k
    rw [← e] at R
    have a := R.lo
    have b := R.hi
    have a2 : root - 0 < 1 := a
    have b2 : (1 : Int) ≤ root + 0 := b
    omega
  | 1, i, hij, hl, e => by
    obtain ⟨k, rfl⟩ : ∃ k, i = k + 2 := ⟨i - 2, by omega⟩
    have x := cf_exact r0 h1 h2 (k + 1)
    have R := cf_red r0 h1 h2 (k + 1)
    have x2 : (cf d root (0, 1) (k + 2)).2 * (cf d root (0, 1) (k + 1)).2 = d - (cf d root (0, 1) (k + 2)).1 * (cf d root (0, 1) (k + 2)).1 := x
    rw [← e, cf_one trivial] at x2
    have x3 : (d - root * root) * (cf d root (0, 1) (k + 1)).2 = (d - root * root) * 1 := by
      have y : (d - root * root) * (cf d root (0, 1) (k + 1)).2 = d - root * root := x2
      omega
    exact hm (k + 1) (by omega) (by omega) (Int.eq_of_mul_eq_mul_left (by omega) x3)
  | j + 2, i, hij, hl, e => by
    obtain ⟨k, rfl⟩ : ∃ k, i = k + 2 := ⟨i - 2, by omega⟩
    have b := (cf_red r0 h1 h2 j).back (cf_red r0 h1 h2 k) r0 h1 h2 e
    exact cf_unlike r0 h1 h2 hm (j + 1) (k + 1) (by omega) (by omega) (Prod.ext b.1 b.2)
end
/-! ### convergents -/
def cstep (s : (Int × Int) × (Int × Int)) (a : Int) : (Int × Int) × (Int × Int) := (s.2, (a * s.2.1 + s.1.1, a * s.2.2 + s.1.2))
def cst (ns : List Int) : (Int × Int) × (Int × Int) := ns.foldl cstep ((0, 1), (1, 0))
def cvl (ns : List Int) : List (Int × Int) := (List.range ns.length).map fun i => (cst (ns.take (i + 1))).2
theorem cst_take {ns : List Int} {i : Nat} {x : Int} (h : ns[i]? = some x) : cst (ns.take (i + 1)) = cstep (cst (ns.take i)) x := by
  unfold cst
  rw [List.take_add_one, h, List.foldl_append]
  rfl
theorem cvl_take {ns : List Int} {i : Nat} (h : i < ns.length) : cvl (ns.take (i + 1)) = cvl (ns.take i) ++ [(cst (ns.take (i + 1))).2] := by
  unfold cvl
  have e1 : (ns.take (i + 1)).length = i + 1 := by rw [List.length_take]; omega
  have e2 : (ns.take i).length = i := by rw [List.length_take]; omega
  rw [e1, e2, List.range_succ, List.map_append]
  congr 1
  · refine List.map_congr_left fun k hk => ?_
    have hk' : k < i := List.mem_range.mp hk
    rw [List.take_take, List.take_take, Nat.min_eq_left (by omega), Nat.min_eq_left (by omega)]
  · show [(cst ((ns.take (i + 1)).take (i + 1))).2] = _
    rw [List.take_take, Nat.min_self]
inductive Prs (H : Hp) : List Addr → List (Int × Int) → Prop
  | nil : Prs H [] []
  | cons {a : Addr} {p : Int × Int} {as : List Addr} {ps : List (Int × Int)} : H a = some (.tup [.int p.1, .int p.2]) → Prs H as ps → Prs H (a :: as) (p :: ps)
theorem Prs.same {H H' : Hp} {as : List Addr} {ps : List (Int × Int)} (h : Prs H as ps) (s : Same H H') : Prs H' as ps := by
  induction h with
  | nil => exact .nil
  | cons e _ ih => exact .cons (s _ _ e) ih
theorem Prs.mono {H H' : Hp} {as : List Addr} {ps : List (Int × Int)} (h : Prs H as ps) (s : ∀ b xs, H b = some (.tup xs) → H' b = some (.tup xs)) : Prs H' as ps := by
  induction h with
  | nil => exact .nil
  | cons e _ ih => exact .cons (s _ _ e) ih
theorem Prs.snoc {H : Hp} {as : List Addr} {ps : List (Int × Int)} {a : Addr} {p : Int × Int} (h : Prs H as ps) (e : H a = some (.tup [.int p.1, .int p.2])) : Prs H (as ++ [a]) (ps ++ [p]) := by
  induction h with
  | nil => exact .cons e .nil
  | cons e' _ ih => exact .cons e' ih
theorem Prs.len {H : Hp} {as : List Addr} {ps : List (Int × Int)} (h : Prs H as ps) : as.length = ps.length := by
  induction h with
  | nil => rfl
  | cons _ _ ih => rw [List.length_cons, List.length_cons, ih]
def pdI (p : Int × Int) : PyData := .tuple [.int p.1, .int p.2]
theorem Prs.dp {K : PySem.W.Frag} {H : Hp} {as : List Addr} {ps : List (Int × Int)} (h : Prs H as ps) : DpAll K H (as.map V.ref) (ps.map pdI) := by
  induction h with
  | nil => exact .nil
  | cons e _ ih => exact .cons (.tup (SqT.of e) (.cons (.int _) (.cons (.int _) .nil))) ih
theorem lay_prs : ∀ ps : List (Int × Int), PyData.canLayAll0 (ps.map pdI) = true
  | [] => rfl
  | p :: ps => by
    rw [List.map_cons, PyData.canLayAll0, lay_prs ps]
    rfl
theorem depth_prs : ∀ ps : List (Int × Int), PyData.depthAll (ps.map pdI) ≤ 1
  | [] => Nat.zero_le _
  | p :: ps => by
    rw [List.map_cons, PyData.depthAll]
    have h := depth_prs ps
    have e : (pdI p).depth = 1 := by
      unfold pdI
      rw [PyData.depth]
      rfl
    omega
theorem shaped_prs (ps : List (Int × Int)) : SeqAt.shaped (.list (ps.map pdI)) = true := by
  show (PyData.canLay0 (.list (ps.map pdI)) && decide (PyData.depth (.list (ps.map pdI)) ≤ 64)) = true
  rw [Bool.and_eq_true]
  refine ⟨by rw [PyData.canLay0]; exact lay_prs ps, decide_eq_true ?_⟩
  rw [PyData.depth]
  have h := depth_prs ps
  omega
theorem Prs.at {H : Hp} {as : List Addr} {ps : List (Int × Int)} (h : Prs H as ps) : ∀ {i : Nat} {p : Int × Int}, ps[i]? = some p → ∃ a, as[i]? = some a ∧ H a = some (.tup [.int p.1, .int p.2]) := by
  induction h with
  | nil => intro i p e; simp at e
  | @cons a q as ps e _ ih =>
    intro i p e2
    cases i with
    | zero =>
      have e3 : q = p := Option.some.inj e2
      subst e3
      exact ⟨a, rfl, e⟩
    | succ i => exact ih e2
theorem at_end {α : Type} {xs : List α} {v : α} (h : xs[xs.length - 1]? = some v) : atI xs (-1) = some v := by
  have hl : 0 < xs.length := by
    cases xs with
    | nil => cases h
    | cons x r => exact Nat.succ_pos _
  have e : ixN xs.length (-1) = some (xs.length - 1) := by
    unfold ixN
    rw [if_neg (by decide), if_pos (by omega)]
    congr 1
    omega
  unfold atI
  rw [e]
  exact h
/-! ### pell -/
def aL (d : Int) (k : Nat) : List Int := (List.range k).map (cfa d (0, 1))
theorem aL_succ (d : Int) (k : Nat) : aL d (k + 1) = aL d k ++ [cfa d (0, 1) k] := by
  unfold aL
  rw [List.range_succ, List.map_append]
  rfl
theorem aL_len (d : Int) (k : Nat) : (aL d k).length = k := by
  unfold aL
  rw [List.length_map, List.length_range]
theorem aL_at {d : Int} {k i : Nat} (h : i < k) : (aL d k)[i]? = some (cfa d (0, 1) i) := by
  unfold aL
  rw [List.getElem?_map, List.getElem?_range h]
  rfl
theorem cst_aL (d : Int) (k : Nat) : cst (aL d (k + 1)) = cstep (cst (aL d k)) (cfa d (0, 1) k) := by
  unfold cst
  rw [aL_succ, List.foldl_append]
  rfl
def sg (k : Nat) : Int := if k % 2 = 0 then 1 else -1
theorem sg_succ (k : Nat) : sg (k + 1) = -sg k := by
  unfold sg
  by_cases h : k % 2 = 0
  · rw [if_pos h, if_neg (by omega)]
  · rw [if_neg h, if_pos (by omega)]
    rfl
theorem nrm_q (Q1 Q2 P P2 d a R : Int) (h0 : Q1 ≠ 0) (hR : R*Q1 = d - P*P) (hQ2 : Q2*Q1 = d - P2*P2) (hP : P2 = a*Q1 - P) : Q2 = R + a*(P - P2) := by
  have z : (Q2 - (R + a*(P-P2)))*Q1 = 0 := by grind
  rcases Int.mul_eq_zero.mp z with h | h
  · omega
  · exact absurd h h0
theorem nrm_step (a p q e d P P2 Q1 Q2 R p0 q0 : Int) (h0 : Q1 ≠ 0) (h1 : p*p - d*(q*q) = e*Q1) (h2 : p*p0 - d*(q*q0) = -(e*P)) (h3 : p0*p0 - d*(q0*q0) = -(e*R)) (hP : P2 = a*Q1 - P) (hR : R*Q1 = d - P*P) (hQ2 : Q2*Q1 = d - P2*P2) :
    (a*p+p0)*(a*p+p0) - d*((a*q+q0)*(a*q+q0)) = -(e*Q2) ∧ (a*p+p0)*p - d*((a*q+q0)*q) = e*P2 := by
  have hQ : Q2 = R + a*(P - P2) := nrm_q Q1 Q2 P P2 d a R h0 hR hQ2 hP
  clear hQ2 hR h0
  constructor <;> grind
/-- d lies between two squares, and the walk of its root comes to the denominator 1 at l first -/
structure PellOk (d : Int) (l : Nat) : Prop where
  d0 : 0 < d
  d1 : d < 10001
  ns : rootI d * rootI d ≠ d
  l0 : 1 ≤ l
  l1 : l ≤ 40000
  one : (cf d (rootI d) (0, 1) l).2 = 1
  least : ∀ k, 1 ≤ k → k < l → (cf d (rootI d) (0, 1) k).2 ≠ 1
section
variable {d : Int} {l : Nat}
theorem PellOk.sq (h : PellOk d l) : 0 ≤ rootI d ∧ rootI d * rootI d < d ∧ d < (rootI d + 1) * (rootI d + 1) ∧ rootI d ≤ 100 := by
  have h0 := h.d0
  have h1 := h.d1
  have h2 := h.ns
  obtain ⟨a, b, c⟩ := rootI_spec (n := d) (by omega)
  refine ⟨a, by omega, c, ?_⟩
  by_cases z : rootI d ≤ 100
  · exact z
  · have e : 101 * 101 ≤ rootI d * rootI d := Int.mul_le_mul (by omega) (by omega) (by omega) (by omega)
    omega
theorem PellOk.red (h : PellOk d l) (k : Nat) : Red d (rootI d) (cf d (rootI d) (0, 1) (k + 1)).1 (cf d (rootI d) (0, 1) (k + 1)).2 := by
  obtain ⟨a, b, c, e⟩ := h.sq
  exact cf_red a b c k
theorem PellOk.size (h : PellOk d l) (k : Nat) : 0 ≤ (cf d (rootI d) (0, 1) k).1 ∧ (cf d (rootI d) (0, 1) k).1 ≤ 100 ∧ 0 < (cf d (rootI d) (0, 1) k).2 ∧ (cf d (rootI d) (0, 1) k).2 ≤ 200 := by
  obtain ⟨a, b, c, e⟩ := h.sq
  cases k with
  | zero => exact ⟨by show (0 : Int) ≤ 0; omega, by show (0 : Int) ≤ 100; omega, by show (0 : Int) < 1; omega, by show (1 : Int) ≤ 200; omega⟩
  | succ k =>
    have R := h.red k
    have r1 := R.q0
    have r2 := R.p1
    have r3 := R.lo
    have r4 := R.hi
    omega
theorem PellOk.part (h : PellOk d l) (k : Nat) : 0 ≤ cfa d (0, 1) k ∧ cfa d (0, 1) k ≤ 200 := by
  obtain ⟨a, b, c, e⟩ := h.sq
  obtain ⟨s1, s2, s3, s4⟩ := h.size k
  unfold cfa
  rw [partI_pos s3]
  have z := Int.ediv_le_self (a := (cf d (rootI d) (0, 1) k).1 + rootI d) (cf d (rootI d) (0, 1) k).2 (by omega)
  exact ⟨Int.ediv_nonneg (by omega) (by omega), by omega⟩
theorem PellOk.ex (h : PellOk d l) : ExOk 0 1 d (l + 1) 1 := by
  obtain ⟨a, b, c, e⟩ := h.sq
  have h0 := h.d0
  have h1 := h.d1
  have hl := h.l0
  have hl1 := h.l1
  refine ⟨by omega, by show d < 1152921504606846976; omega, h.ns, by decide, ?_, by omega, by omega, cf_again l h.one, fun i j hij hj => cf_unlike a b c h.least i j hij (by omega), fun i _ => ?_⟩
  · exact Int.fmod_one _
  · obtain ⟨s1, s2, s3, s4⟩ := h.size i
    exact ⟨by show _ < 1152921504606846976; omega, by show _ < 1152921504606846976; omega, by omega⟩
theorem PellOk.period (h : PellOk d l) : ∀ k, cf d (rootI d) (0, 1) (k + 1) = cf d (rootI d) (0, 1) (k % l + 1) := by
  intro k
  have hl := h.l0
  induction k using Nat.strongRecOn with
  | _ k ih =>
    by_cases hk : k < l
    · rw [Nat.mod_eq_of_lt hk]
    · have e := cf_shift l h.one (k - l)
      have e2 : l + (k - l + 1) = k + 1 := by omega
      rw [e2] at e
      rw [e, ih (k - l) (by omega)]
      have e3 : k % l = (k - l) % l := Nat.mod_eq_sub_mod (by omega)
      rw [e3]
theorem PellOk.nrm (h : PellOk d l) : ∀ k, (cst (aL d k)).2.1 * (cst (aL d k)).2.1 - d * ((cst (aL d k)).2.2 * (cst (aL d k)).2.2) = sg k * (cf d (rootI d) (0, 1) k).2 ∧ (cst (aL d k)).2.1 * (cst (aL d k)).1.1 - d * ((cst (aL d k)).2.2 * (cst (aL d k)).1.2) = -(sg k * (cf d (rootI d) (0, 1) k).1) ∧
    ∃ R, (cst (aL d k)).1.1 * (cst (aL d k)).1.1 - d * ((cst (aL d k)).1.2 * (cst (aL d k)).1.2) = -(sg k * R) ∧ R * (cf d (rootI d) (0, 1) k).2 = d - (cf d (rootI d) (0, 1) k).1 * (cf d (rootI d) (0, 1) k).1
  | 0 => ⟨by show (1 : Int) * 1 - d * (0 * 0) = 1 * 1; omega, by show (1 : Int) * 0 - d * (0 * 1) = -(1 * 0); omega, d, by show (0 : Int) * 0 - d * (1 * 1) = -(1 * d); omega, by show d * 1 = d - 0 * 0; omega⟩
  | k + 1 => by
    obtain ⟨h1, h2, R, h3, h4⟩ := h.nrm k
    obtain ⟨a, b, c, e⟩ := h.sq
    have x := cf_exact a b c k
    obtain ⟨s1, s2, s3, s4⟩ := h.size k
    have hP : (cf d (rootI d) (0, 1) (k + 1)).1 = cfa d (0, 1) k * (cf d (rootI d) (0, 1) k).2 - (cf d (rootI d) (0, 1) k).1 := rfl
    obtain ⟨n1, n2⟩ := nrm_step _ _ _ _ _ _ _ _ _ _ _ _ (by omega) h1 h2 h3 hP h4 x
    rw [cst_aL, sg_succ]
    refine ⟨?_, ?_, (cf d (rootI d) (0, 1) k).2, ?_, ?_⟩
    · rw [Int.neg_mul]
      exact n1
    · rw [Int.neg_mul, Int.neg_neg]
      exact n2
    · rw [Int.neg_mul, Int.neg_neg]
      exact h1
    · rw [Int.mul_comm]
      exact x
theorem PellOk.wide (h : PellOk d l) : ∀ k, (cst (aL d k)).1.1.natAbs ≤ 2 ^ (8 * k) ∧ (cst (aL d k)).1.2.natAbs ≤ 2 ^ (8 * k) ∧ (cst (aL d k)).2.1.natAbs ≤ 2 ^ (8 * k) ∧ (cst (aL d k)).2.2.natAbs ≤ 2 ^ (8 * k)
  | 0 => by
    show Int.natAbs 0 ≤ 1 ∧ Int.natAbs 1 ≤ 1 ∧ Int.natAbs 1 ≤ 1 ∧ Int.natAbs 0 ≤ 1
    decide
  | k + 1 => by
    obtain ⟨h1, h2, h3, h4⟩ := h.wide k
    obtain ⟨a0, a1⟩ := h.part k
    rw [cst_aL]
    have e : (2 : Nat) ^ (8 * (k + 1)) = 2 ^ (8 * k) * 256 := by
      rw [Nat.mul_add, Nat.pow_add]
    rw [e]
    have st : ∀ x y : Int, x.natAbs ≤ 2 ^ (8 * k) → y.natAbs ≤ 2 ^ (8 * k) → (cfa d (0, 1) k * x + y).natAbs ≤ 2 ^ (8 * k) * 256 := by
      intro x y hx hy
      have z1 : (cfa d (0, 1) k * x).natAbs = (cfa d (0, 1) k).natAbs * x.natAbs := Int.natAbs_mul _ _
      have z2 : (cfa d (0, 1) k).natAbs * x.natAbs ≤ 200 * 2 ^ (8 * k) := Nat.mul_le_mul (by omega) hx
      generalize (2 : Nat) ^ (8 * k) = B at hx hy z2 ⊢
      omega
    exact ⟨by show (cst (aL d k)).2.1.natAbs ≤ _; omega, by show (cst (aL d k)).2.2.natAbs ≤ _; omega, st _ _ h3 h1, st _ _ h4 h2⟩
/-- how many parts pell takes -/
def pellN (l : Nat) : Nat := if l % 2 = 1 then 2 * l else l
theorem PellOk.hit (h : PellOk d l) {k : Nat} (hk : k < pellN l) : (cst (aL d (k + 1))).2.1 * (cst (aL d (k + 1))).2.1 - d * ((cst (aL d (k + 1))).2.2 * (cst (aL d (k + 1))).2.2) = 1 ↔ k + 1 = pellN l := by
  rw [(h.nrm (k + 1)).1]
  obtain ⟨s1, s2, s3, s4⟩ := h.size (k + 1)
  have hl := h.l0
  have per := h.period k
  have q1 : (cf d (rootI d) (0, 1) (k + 1)).2 = 1 ↔ (k + 1) % l = 0 := by
    by_cases z : k % l + 1 < l
    · have lm := h.least (k % l + 1) (by omega) z
      rw [← per] at lm
      have e : (k + 1) % l = k % l + 1 := by
        rw [Nat.add_mod, Nat.mod_eq_of_lt (show 1 < l by omega), Nat.mod_eq_of_lt z]
      exact ⟨fun y => absurd y lm, fun y => by omega⟩
    · have zl := Nat.mod_lt k (show 0 < l by omega)
      have e2 : k % l + 1 = l := by omega
      have e : (k + 1) % l = 0 := by
        have e3 := Nat.div_add_mod k l
        have e4 : k + 1 = l * (k / l + 1) := by
          rw [Nat.mul_add]
          omega
        rw [e4]
        exact Nat.mul_mod_right _ _
      rw [per, e2]
      exact ⟨fun _ => e, fun _ => h.one⟩
  have sgn : ∀ n, sg n = 1 ∨ sg n = -1 := fun n => by
    unfold sg
    split
    · exact .inl rfl
    · exact .inr rfl
  have s5 : sg (k + 1) * (cf d (rootI d) (0, 1) (k + 1)).2 = 1 ↔ (k + 1) % 2 = 0 ∧ (k + 1) % l = 0 := by
    rw [← q1]
    unfold sg
    by_cases z : (k + 1) % 2 = 0
    · rw [if_pos z]
      exact ⟨fun y => ⟨z, by omega⟩, fun y => by omega⟩
    · rw [if_neg z]
      exact ⟨fun y => by omega, fun y => absurd y.1 z⟩
  rw [s5]
  unfold pellN at hk ⊢
  by_cases odd : l % 2 = 1
  · rw [if_pos odd] at hk ⊢
    constructor
    · rintro ⟨y1, y2⟩
      obtain ⟨c, hc⟩ := Nat.dvd_of_mod_eq_zero y2
      have c1 : c ≠ 1 := fun z => by
        rw [z] at hc
        omega
      have c2 : c ≠ 0 := fun z => by
        rw [z] at hc
        omega
      have c3 : l * 2 ≤ l * c := Nat.mul_le_mul_left _ (by omega)
      omega
    · intro y
      rw [y]
      exact ⟨by omega, Nat.mod_eq_zero_of_dvd ⟨2, by omega⟩⟩
  · rw [if_neg odd] at hk ⊢
    constructor
    · rintro ⟨y1, y2⟩
      obtain ⟨c, hc⟩ := Nat.dvd_of_mod_eq_zero y2
      have c2 : c ≠ 0 := fun z => by
        rw [z] at hc
        omega
      have c3 : l * 1 ≤ l * c := Nat.mul_le_mul_left _ (by omega)
      omega
    · intro y
      rw [y]
      exact ⟨by omega, Nat.mod_self l⟩
end

/-! ### Nat -/
section
variable {X : Cx}
theorem modNN : OpR X (binaryOp .Mod) (fun x y H Q => ∃ n m : Nat, x = .int (n : Int) ∧ y = .int (m : Int) ∧ 0 < m ∧ Q (.int ((n % m : Nat) : Int)) H) := by
  intro pins s σ H x y v u Q I rx ry h
  obtain ⟨n, m, rfl, rfl, c, q⟩ := h
  rw [Int.natCast_emod] at q
  exact op_mod pins s σ H _ _ v u Q I rx ry ⟨_, _, rfl, rfl, by show (0 : Int) < (m : Int); omega, q⟩
theorem mulNN : OpR X (binaryOp .Mult) (fun x y H Q => ∃ n m : Nat, x = .int (n : Int) ∧ y = .int (m : Int) ∧ (n < 2 ^ 64 ∨ m < 2 ^ 64) ∧ Q (.int ((n * m : Nat) : Int)) H) := by
  intro pins s σ H x y v u Q I rx ry h
  obtain ⟨n, m, rfl, rfl, c, q⟩ := h
  rw [Int.natCast_mul] at q
  refine op_mul pins s σ H _ _ v u Q I rx ry ⟨_, _, rfl, rfl, ?_, q⟩
  rcases c with c | c
  · have c' : n < 18446744073709551616 := c
    exact .inl ⟨by omega, by show (n : Int) < 18446744073709551616; omega⟩
  · have c' : m < 18446744073709551616 := c
    exact .inr ⟨by omega, by show (m : Int) < 18446744073709551616; omega⟩
theorem divNN : OpR X (binaryOp .FloorDiv) (fun x y H Q => ∃ n m : Nat, x = .int (n : Int) ∧ y = .int (m : Int) ∧ (0 < m ∧ m < 2 ^ 9000) ∧ Q (.int ((n / m : Nat) : Int)) H) := by
  intro pins s σ H x y v u Q I rx ry h
  obtain ⟨n, m, rfl, rfl, ⟨c1, c2⟩, q⟩ := h
  rw [Int.natCast_ediv] at q
  refine op_fdivW pins s σ H _ _ v u Q I rx ry ⟨_, _, rfl, rfl, ⟨by omega, ?_⟩, q⟩
  rw [Int.natAbs_natCast]
  exact PySem.Flt.log2_lt_of (by decide) c2
end
theorem div9 {m : Nat} (h0 : 0 < m) (h : m < 2 ^ 64) : 0 < m ∧ m < 2 ^ 9000 := ⟨h0, pow_up h (by decide)⟩
theorem powI (b n : Nat) : ((b : Int) ^ n) = ((b ^ n : Nat) : Int) := (Int.natCast_pow b n).symm
/-! ### mirrors -/
def pmL (m : Nat) : Nat → Nat → Nat → Nat → Nat
  | 0, r, _, _ => r
  | f + 1, r, s, k => bif k.beq 0 then r else pmL m f (bif (k % 2).beq 1 then r * s % m else r) (s * s % m) (k / 2)
/-- b ^ e % m, by halving -/
def pmod (b e m : Nat) : Nat := pmL m 64 1 (b % m) e
def toL (p : Nat) : Nat → Nat → Nat → Nat × Nat
  | 0, n, k => (k, n)
  | f + 1, n, k => bif (n % p).beq 0 then toL p f (n / p) (k + 1) else (k, n)
def takenOut (n p : Nat) : Nat × Nat := toL p 64 n 0
def behL (n : Nat) : Nat → Nat → Bool
  | 0, _ => false
  | k + 1, x => bif x.beq (n - 1) then true else behL n k (x * x % n)
def behaves (n base many odd : Nat) : Bool := bif (pmod base odd n).beq 1 then true else behL n many (pmod base odd n)
def wits : List Nat := [2, 3, 5, 7, 11, 13, 17, 19, 23, 29, 31, 37]
/-- n by the first of these that measures it: it is that one -/
def byW (n : Nat) : List Nat → Option Bool
  | [] => none
  | p :: r => bif (n % p).beq 0 then some (n.beq p) else byW n r
def isPrimeM (n : Nat) : Bool := bif n.ble 1 then false else match byW n wits with
  | some b => b
  | none => wits.all fun b => behaves n b (takenOut (n - 1) 2).1 (takenOut (n - 1) 2).2
def leastL (n : Nat) : Nat → Nat → Option Nat
  | 0, _ => none
  | f + 1, x => bif (n % x).beq 0 then some x else leastL n f (x + 2)
def leastM (n start : Nat) : Option Nat := bif (n % 2).beq 0 then some 2 else leastL n n (bif start.ble 3 then 3 else start)
/-- the prime parts, as the program finds them: none where its search would not end in this many steps -/
def ppL : Nat → Nat → Nat → Option (List (Nat × Nat))
  | 0, _, _ => none
  | f + 1, rest, p => bif rest.ble 1 then some [] else
    match (bif isPrimeM rest then some rest else leastM rest p) with
    | none => none
    | some q => match ppL f (takenOut rest q).2 q with
      | none => none
      | some l => some ((q, (takenOut rest q).1) :: l)
def ppM (n : Nat) : Option (List (Nat × Nat)) := ppL 70 n 2
theorem bifT {α : Type} {b : Bool} (h : b = true) (x y : α) : (bif b then x else y) = x := by rw [h]; rfl
theorem bifF {α : Type} {b : Bool} (h : b = false) (x y : α) : (bif b then x else y) = y := by rw [h]; rfl
theorem beqT {a b : Nat} (h : a = b) : a.beq b = true := by rw [h]; exact Nat.beq_refl b
theorem beqF {a b : Nat} (h : a ≠ b) : a.beq b = false := by
  cases e : a.beq b with
  | false => rfl
  | true => exact absurd (Nat.eq_of_beq_eq_true e) h
theorem bleT {a b : Nat} (h : a ≤ b) : a.ble b = true := Nat.ble_eq_true_of_le h
theorem bleF {a b : Nat} (h : ¬ a ≤ b) : a.ble b = false := by
  cases e : a.ble b with
  | false => rfl
  | true => exact absurd (Nat.le_of_ble_eq_true e) h
theorem toL_pos {p : Nat} (hp : 2 ≤ p) : ∀ {f n k : Nat}, 0 < n → 0 < (toL p f n k).2 ∧ (toL p f n k).2 ≤ n
  | 0, n, k, h => ⟨h, Nat.le_refl _⟩
  | f + 1, n, k, h => by
    unfold toL
    by_cases e : n % p = 0
    · rw [bifT (beqT e)]
      have h1 : p ≤ n := Nat.le_of_dvd h (Nat.dvd_of_mod_eq_zero e)
      have h2 : 0 < n / p := Nat.div_pos h1 (by omega)
      obtain ⟨a, b⟩ := toL_pos hp (f := f) (k := k + 1) h2
      exact ⟨a, Nat.le_trans b (Nat.div_le_self _ _)⟩
    · rw [bifF (beqF e)]
      exact ⟨h, Nat.le_refl _⟩
theorem pmL_lt {m : Nat} (h : 0 < m) : ∀ {f r s k : Nat}, r < m → pmL m f r s k < m
  | 0, r, s, k, hr => hr
  | f + 1, r, s, k, hr => by
    unfold pmL
    cases k.beq 0 with
    | true => exact hr
    | false =>
      refine pmL_lt h ?_
      cases (k % 2).beq 1 with
      | true => exact Nat.mod_lt _ h
      | false => exact hr
theorem pmod_lt {b e m : Nat} (h : 1 < m) : pmod b e m < m := pmL_lt (by omega) h
def nats (l : List (Nat × Nat)) : List (Int × Int) := l.map fun p => ((p.1 : Int), (p.2 : Int))

/-! ### forms -/
def dsc (a b c : Int) : Int := b * b - 4 * a * c
def fA (a b c p r : Int) : Int := a * p * p + b * p * r + c * r * r
def fB (a b c p q r s : Int) : Int := 2 * a * p * q + b * (p * s + q * r) + 2 * c * r * s
theorem actA (a b c p q r s x y : Int) : fA (fA a b c p r) (fB a b c p q r s) (fA a b c q s) x y = fA a b c (p * x + q * y) (r * x + s * y) := by
  unfold fA fB
  grind
theorem actB (a b c p q r s x y z w : Int) : fB (fA a b c p r) (fB a b c p q r s) (fA a b c q s) x z y w = fB a b c (p * x + q * y) (p * z + q * w) (r * x + s * y) (r * z + s * w) := by
  unfold fA fB
  grind
theorem dsc_act (a b c p q r s : Int) : dsc (fA a b c p r) (fB a b c p q r s) (fA a b c q s) = dsc a b c * ((p * s - q * r) * (p * s - q * r)) := by
  unfold dsc fA fB
  grind
theorem act_mid (a b c p q r s : Int) : a * (p + q) * (p + q) + b * (p + q) * (r + s) + c * (r + s) * (r + s) - (a * p * p + b * p * r + c * r * r) - (a * q * q + b * q * s + c * s * s) = 2 * a * p * q + b * (p * s + q * r) + 2 * c * r * s := by
  grind
def kindS (d : Int) : Str := if d < 0 then "definite" else if d = 0 then "flat" else if rootI d * rootI d = d then "split" else "indefinite"
/-- the forms that the law draws -/
def sortS (ind : Bool) : Str := if ind then "indefinite" else "definite"
def FormOk (ind : Bool) (a b c : Int) : Prop := a.natAbs ≤ 5 ∧ b.natAbs ≤ 6 ∧ c.natAbs ≤ 5 ∧ kindS (dsc a b c) = sortS ind
theorem kindS_ind {d : Int} (h : kindS d = "indefinite") : 0 < d ∧ rootI d * rootI d ≠ d := by
  unfold kindS at h
  by_cases z : d < 0
  · rw [if_pos z] at h
    exact absurd h (by decide)
  · rw [if_neg z] at h
    by_cases y : d = 0
    · rw [if_pos y] at h
      exact absurd h (by decide)
    · rw [if_neg y] at h
      by_cases x : rootI d * rootI d = d
      · rw [if_pos x] at h
        exact absurd h (by decide)
      · exact ⟨by omega, x⟩
theorem kindS_def {d : Int} (h : kindS d = "definite") : d < 0 := by
  unfold kindS at h
  by_cases z : d < 0
  · exact z
  · rw [if_neg z] at h
    by_cases y : d = 0
    · rw [if_pos y] at h
      exact absurd h (by decide)
    · rw [if_neg y] at h
      by_cases x : rootI d * rootI d = d
      · rw [if_pos x] at h
        exact absurd h (by decide)
      · rw [if_neg x] at h
        exact absurd h (by decide)
theorem uLawRoot0 {n : Int} (h : 0 ≤ n) : 0 ≤ rootI n ∧ rootI n ≤ n := by
  obtain ⟨a, b, c⟩ := rootI_spec h
  refine ⟨a, ?_⟩
  by_cases z : rootI n = 0
  · omega
  · have := Int.mul_le_mul_of_nonneg_right (show 1 ≤ rootI n by omega) a
    omega
theorem mul3 {x y z : Int} {X Y Z : Nat} (h1 : x.natAbs ≤ X) (h2 : y.natAbs ≤ Y) (h3 : z.natAbs ≤ Z) : (x * y * z).natAbs ≤ X * Y * Z := by
  rw [Int.natAbs_mul, Int.natAbs_mul]
  exact Nat.mul_le_mul (Nat.mul_le_mul h1 h2) h3
theorem abs3_le {x y z : Int} {Z : Nat} (h1 : x.natAbs ≤ Z) (h2 : y.natAbs ≤ Z) (h3 : z.natAbs ≤ Z) : (x + y + z).natAbs ≤ 3 * Z := by omega
theorem abs4_le {x y z w : Int} {Z : Nat} (h1 : x.natAbs ≤ Z) (h2 : y.natAbs ≤ Z) (h3 : z.natAbs ≤ Z) (h4 : w.natAbs ≤ Z) : (2 * x + y + z + 2 * w).natAbs ≤ 6 * Z := by omega
theorem act_size {a b c p q r s : Int} {C M : Nat} (ha : a.natAbs ≤ C) (hb : b.natAbs ≤ C) (hc : c.natAbs ≤ C) (hp : p.natAbs ≤ M) (hq : q.natAbs ≤ M) (hr : r.natAbs ≤ M) (hs : s.natAbs ≤ M) :
    (fA a b c p r).natAbs ≤ 3 * (C * M * M) ∧ (fB a b c p q r s).natAbs ≤ 6 * (C * M * M) ∧ (fA a b c q s).natAbs ≤ 3 * (C * M * M) := by
  have t1 := mul3 ha hp hp
  have t2 := mul3 hb hp hr
  have t3 := mul3 hc hr hr
  have t4 := mul3 ha hp hq
  have t5 := mul3 hb hp hs
  have t6 := mul3 hb hq hr
  have t7 := mul3 hc hr hs
  have t8 := mul3 ha hq hq
  have t9 := mul3 hb hq hs
  have t0 := mul3 hc hs hs
  have e : fB a b c p q r s = 2 * (a * p * q) + b * p * s + b * q * r + 2 * (c * r * s) := by
    unfold fB
    grind
  rw [e]
  exact ⟨abs3_le t1 t2 t3, abs4_le t4 t5 t6 t7, abs3_le t8 t9 t0⟩
theorem dsc_size {a b c : Int} {n : Int} (n0 : 0 ≤ n) (ha : (a.natAbs : Int) ≤ n) (hb : (b.natAbs : Int) ≤ n) (hc : (c.natAbs : Int) ≤ n) : -(5 * (n * n)) ≤ dsc a b c ∧ dsc a b c ≤ 5 * (n * n) := by
  have e1 : ((b * b).natAbs : Int) ≤ n * n := by
    rw [Int.natAbs_mul, Int.natCast_mul]
    exact Int.mul_le_mul hb hb (by omega) n0
  have e2 : ((a * c).natAbs : Int) ≤ n * n := by
    rw [Int.natAbs_mul, Int.natCast_mul]
    exact Int.mul_le_mul ha hc (by omega) n0
  unfold dsc
  rw [Int.mul_assoc]
  generalize b * b = x at *
  generalize a * c = y at *
  generalize n * n = z at *
  omega

/-! ### a op b op c op d -/
section
variable {X : Cx} {a b c d : Expr} {ta tb tc td : TE} {pos : Pos}
def tChain3 (r r' r'' : R2) (ta tb tc td : TE) : TE := fun σ H Q => ta σ H fun x H1 => tb σ H1 fun y H2 => r x y H2 fun z H3 => ∃ k, z = .bl k ∧
  (if k = true then tc σ H3 fun w' H4 => r' y w' H4 fun z2 H5 => ∃ k2, z2 = .bl k2 ∧ (if k2 = true then td σ H5 fun w2 H6 => r'' w' w2 H6 Q else Q (.bl false) H5) else Q (.bl false) H3)
theorem pe_chain3 {op op' op2 : CmpOp} {r r' r2' : R2} (ho : OpR X (compareOp op) r) (ho' : OpR X (compareOp op') r') (ho2 : OpR X (compareOp op2) r2') (ha : PE X a ta) (hb : PE X b tb) (hc : PE X c tc) (hd : PE X d td)
    (hm : lastMarks [op, op', op2] [b, c, d] = false := by with_unfolding_all rfl) : PE X (.Compare a [op, op', op2] [b, c, d] pos) (tChain3 r r' r2' ta tb tc td) := by
  refine ⟨fun ps sa σ Ha W Ia hw => ?_⟩
  refine Compare_chain (thn (ha.run ps sa σ Ha _ Ia hw) fun ua sb ⟨xa, Hb, Ib, ra, wa⟩ => chain_link (thn (hb.run ps sb σ Hb _ Ib wa) fun ub sc ⟨xb, Hc, Ic, rb, wb⟩ =>
    thn (ho ps sc σ Hc xa xb ua ub _ Ic ra rb wb) fun _ sd ⟨_, Hd, Id, rz, t1, et, wc⟩ => ?_)) hm
  subst et
  cases rz
  refine wpAny_truthy_bool ?_
  cases t1 with
  | false => exact ite_ff ⟨.bl false, Hd, Id, rfl, wc⟩
  | true =>
    refine ite_tt (chain_link (thn (hc.run ps sd σ Hd _ Id wc) fun uc se ⟨xc, He, Ie, rc, wd⟩ => thn (ho' ps se σ He xb xc ub uc _ Ie rb rc wd) fun _ sf ⟨_, Hf, If, rf, t2, eu, we⟩ => ?_))
    subst eu
    cases rf
    refine wpAny_truthy_bool ?_
    cases t2 with
    | false => exact ite_ff ⟨.bl false, Hf, If, rfl, we⟩
    | true => exact ite_tt (chain_last (thn (hd.run ps sf σ Hf _ If we) fun ud sg ⟨xd, Hg, Ig, rd, wg⟩ => ho2 ps sg σ Hg xc xd uc ud W Ig rc rd wg))
end
theorem r_chain3 {r r' r'' : R2} {ta tb tc td : TE} {σ : L2.St} {H : Hp} {Q : VK} (h : ta σ H fun x H1 => tb σ H1 fun y H2 => r x y H2 fun z H3 => ∃ k, z = .bl k ∧
  (if k = true then tc σ H3 fun w' H4 => r' y w' H4 fun z2 H5 => ∃ k2, z2 = .bl k2 ∧ (if k2 = true then td σ H5 fun w2 H6 => r'' w' w2 H6 Q else Q (.bl false) H5) else Q (.bl false) H3)) : tChain3 r r' r'' ta tb tc td σ H Q := h
/-! ### definite forms -/
/-- positive forms: 4 a c - b b = E -/
structure PF (E a b c : Int) : Prop where
  d : 4 * (a * c) - b * b = E
  e0 : 0 < E
  e1 : E ≤ 10000
  a0 : 0 < a
def RedD (a b c : Int) : Prop := -a < b ∧ b ≤ a ∧ a ≤ c ∧ (0 ≤ b ∨ a ≠ c)
instance {a b c : Int} : Decidable (RedD a b c) := by unfold RedD; infer_instance
theorem sqn (x : Int) : 0 ≤ x * x := by
  rcases Int.le_total 0 x with h | h
  · exact Int.mul_nonneg h h
  · exact Int.mul_nonneg_of_nonpos_of_nonpos h h
theorem sq_le {x y : Int} (h1 : -y ≤ x) (h2 : x ≤ y) : x * x ≤ y * y := by
  have : 0 ≤ (y - x) * (y + x) := Int.mul_nonneg (by omega) (by omega)
  have e : (y - x) * (y + x) = y * y - x * x := by grind
  omega
section
variable {E a b c : Int}
theorem PF.c0 (F : PF E a b c) : 0 < c := by
  have d := F.d
  have e := F.e0
  have a0 := F.a0
  have q := sqn b
  by_cases z : 0 < c
  · exact z
  · have := Int.mul_nonpos_of_nonneg_of_nonpos (show 0 ≤ a by omega) (show c ≤ 0 by omega)
    omega
theorem PF.tr (F : PF E a b c) (n : Int) : PF E a (b + 2 * a * n) (a * n * n + b * n + c) := by
  refine ⟨?_, F.e0, F.e1, F.a0⟩
  rw [← F.d]
  grind
theorem PF.sw (F : PF E a b c) : PF E c (-b) a := by
  refine ⟨?_, F.e0, F.e1, F.c0⟩
  rw [← F.d]
  grind
theorem PF.c_le (F : PF E a b c) (h1 : -a < b) (h2 : b ≤ a) : c ≤ a + E := by
  have d := F.d
  have e := F.e0
  have a0 := F.a0
  have s := sq_le (x := b) (y := a) (by omega) h2
  by_cases z : c ≤ a + E
  · exact z
  · have t := Int.mul_le_mul_of_nonneg_left (show a + E + 1 ≤ c by omega) (show 0 ≤ a by omega)
    have t2 : a * (a + E + 1) = a * a + a * E + a := by grind
    have t3 := Int.mul_le_mul_of_nonneg_right (show 1 ≤ a by omega) (show 0 ≤ E by omega)
    have t4 := sqn a
    omega
theorem PF.half (F : PF E a b c) (h1 : -a < b) (h2 : b ≤ a) (hr : 100 < a) : 2 * c ≤ a := by
  have d := F.d
  have e := F.e1
  have a0 := F.a0
  have s := sq_le (x := b) (y := a) (by omega) h2
  by_cases z : 2 * c ≤ a
  · exact z
  · have t := Int.mul_le_mul_of_nonneg_left (show a + 1 ≤ 2 * c by omega) (show 0 ≤ a by omega)
    have t2 : a * (a + 1) = a * a + a := by grind
    have t3 : a * (2 * c) = 2 * (a * c) := by grind
    have t4 := Int.mul_le_mul (show 101 ≤ a by omega) (show 101 ≤ a by omega) (by decide) (by omega)
    omega
/-- a form takes no lesser value than a reduced a -/
theorem low_val {x y : Int} (h : x ≠ 0 ∨ y ≠ 0) : 1 ≤ x * x - ((x.natAbs : Int) * (y.natAbs : Int)) + y * y := by
  have e1 : x * x = (x.natAbs : Int) * (x.natAbs : Int) := by
    rw [← Int.natCast_mul, ← Int.natAbs_mul]
    have := sqn x
    omega
  have e2 : y * y = (y.natAbs : Int) * (y.natAbs : Int) := by
    rw [← Int.natCast_mul, ← Int.natAbs_mul]
    have := sqn y
    omega
  rw [e1, e2]
  have h' : 0 < (x.natAbs : Int) ∨ 0 < (y.natAbs : Int) := by omega
  have p := Int.natCast_nonneg x.natAbs
  have q := Int.natCast_nonneg y.natAbs
  generalize (x.natAbs : Int) = u at *
  generalize (y.natAbs : Int) = v at *
  have t : 4 * (u * u - u * v + v * v) = (2 * u - v) * (2 * u - v) + 3 * (v * v) := by grind
  have s1 := sqn (2 * u - v)
  have s2 := sqn v
  by_cases z : v = 0
  · subst z
    have := Int.mul_le_mul (show 1 ≤ u by omega) (show 1 ≤ u by omega) (by decide) (by omega)
    omega
  · have := Int.mul_le_mul (show 1 ≤ v by omega) (show 1 ≤ v by omega) (by decide) (by omega)
    omega
theorem val_ge {x y : Int} (a0 : 0 < a) (h1 : -a < b) (h2 : b ≤ a) (h3 : a ≤ c) : a * (x * x - ((x.natAbs : Int) * (y.natAbs : Int)) + y * y) + (c - a) * (y * y) ≤ fA a b c x y := by
  have e : fA a b c x y = a * (x * x) + b * (x * y) + c * (y * y) := by
    unfold fA
    grind
  have k : ((x.natAbs : Int) * (y.natAbs : Int)) = ((x * y).natAbs : Int) := by
    rw [Int.natAbs_mul, Int.natCast_mul]
  rw [e, k]
  generalize x * y = w
  generalize x * x = u
  generalize y * y = v
  have t : -(a * (w.natAbs : Int)) ≤ b * w := by
    rcases Int.le_total 0 w with h | h
    · have := Int.mul_le_mul_of_nonneg_right (show -a ≤ b by omega) h
      have e2 : -a * w = -(a * w) := by grind
      rw [show (w.natAbs : Int) = w by omega]
      omega
    · have := Int.mul_le_mul_of_nonpos_right h2 h
      have e2 : a * -w = -(a * w) := by grind
      rw [show (w.natAbs : Int) = -w by omega, e2]
      omega
  have e3 : a * (u - (w.natAbs : Int) + v) + (c - a) * v = a * u - a * (w.natAbs : Int) + c * v := by grind
  omega
theorem uniq {a b c a' b' c' p q r s : Int} (F : PF E a b c) (R1 : RedD a b c) (G : PF E a' b' c') (R2 : RedD a' b' c') (hd : p * s - q * r = 1) (ea : a' = fA a b c p r) (eb : b' = fB a b c p q r s) (ec : c' = fA a b c q s) : a = a' ∧ b = b' ∧ c = c' := by
  have a0 := F.a0
  have a0' := G.a0
  obtain ⟨u1, u2, u3, u4⟩ := R1
  obtain ⟨w1, w2, w3, w4⟩ := R2
  -- the other way
  have ia : a = fA a' b' c' s (-r) := by
    rw [ea, eb, ec]
    unfold fA fB
    have : a = a * ((p * s - q * r) * (p * s - q * r)) := by rw [hd]; omega
    grind
  have pr : p ≠ 0 ∨ r ≠ 0 := by
    by_cases z : p = 0
    · right
      rintro rfl
      subst z
      omega
    · exact .inl z
  have sr : s ≠ 0 ∨ -r ≠ 0 := by
    by_cases z : s = 0
    · right
      intro h
      have : r = 0 := by omega
      subst this z
      omega
    · exact .inl z
  have v1 := val_ge (x := p) (y := r) a0 u1 u2 u3
  have v2 := val_ge (x := s) (y := -r) a0' w1 w2 w3
  have l1 := low_val pr
  have l2 := low_val sr
  rw [← ea] at v1
  rw [← ia] at v2
  have n1 : 0 ≤ (c - a) * (r * r) := Int.mul_nonneg (by omega) (sqn r)
  have n2 : 0 ≤ (c' - a') * (-r * -r) := Int.mul_nonneg (by omega) (sqn _)
  have m1 := Int.mul_le_mul_of_nonneg_left l1 (show 0 ≤ a by omega)
  have m2 := Int.mul_le_mul_of_nonneg_left l2 (show 0 ≤ a' by omega)
  have haa : a = a' := by omega
  subst haa
  have dd : 4 * (a * c) - b * b = 4 * (a * c') - b' * b' := F.d.trans G.d.symm
  by_cases hr : r = 0
  · subst hr
    have ps : p * s = 1 := by omega
    have p2 : p * p = 1 := by
      have h : p.natAbs * s.natAbs = 1 := by
        rw [← Int.natAbs_mul, ps]
        rfl
      have h2 : p.natAbs = 1 := Nat.dvd_one.mp ⟨s.natAbs, h.symm⟩
      rcases Int.natAbs_eq p with h3 | h3 <;> rw [h3, h2] <;> rfl
    have e1 : b' = b + 2 * a * (p * q) := by
      rw [eb]
      unfold fB
      have : b * (p * s + q * 0) = b := by rw [ps]; omega
      grind
    have e2 : b = b' := by
      generalize p * q = t at e1
      have : t = 0 := by
        rcases Int.lt_trichotomy t 0 with h | h | h
        · have := Int.mul_le_mul_of_nonneg_left (show t ≤ -1 by omega) (show 0 ≤ 2 * a by omega)
          omega
        · exact h
        · have := Int.mul_le_mul_of_nonneg_left (show 1 ≤ t by omega) (show 0 ≤ 2 * a by omega)
          omega
      subst this
      omega
    subst e2
    have : a * c = a * c' := by omega
    exact ⟨rfl, rfl, Int.eq_of_mul_eq_mul_left (by omega) this⟩
  · have r1 : 1 ≤ r * r := by
      have := sqn r
      have : r * r ≠ 0 := fun h => hr ((Int.mul_eq_zero.mp h).elim id id)
      omega
    have q1 : c = a := by
      have t := Int.mul_le_mul_of_nonneg_left r1 (show 0 ≤ c - a by omega)
      omega
    have q2 : c' = a := by
      have e : -r * -r = r * r := by grind
      rw [e] at n2 v2 m2
      have t := Int.mul_le_mul_of_nonneg_left r1 (show 0 ≤ c' - a by omega)
      omega
    subst q1
    have b0 : 0 ≤ b := by
      rcases u4 with h | h
      · exact h
      · exact absurd rfl h
    have b0' : 0 ≤ b' := by
      rcases w4 with h | h
      · exact h
      · exact absurd q2.symm h
    rw [q2] at dd
    have bb : b * b = b' * b' := by omega
    have : b = b' := by
      rcases Int.lt_trichotomy b b' with h | h | h
      · have := Int.mul_le_mul (show b + 1 ≤ b' by omega) (show b + 1 ≤ b' by omega) (by omega) (by omega)
        have e : (b + 1) * (b + 1) = b * b + 2 * b + 1 := by grind
        omega
      · exact h
      · have := Int.mul_le_mul (show b' + 1 ≤ b by omega) (show b' + 1 ≤ b by omega) (by omega) (by omega)
        have e : (b' + 1) * (b' + 1) = b' * b' + 2 * b' + 1 := by grind
        omega
    exact ⟨rfl, this, q2.symm⟩
end
/-- how far it is -/
def Pt9 (c : Int) (k : Nat) : Prop := (c ≤ 100 ∧ c ≤ (k : Int)) ∨ ∃ t, k = 101 + t ∧ c.toNat < 2 ^ t
theorem pt_half {c c' : Int} {k : Nat} (h : Pt9 c k) (hc : 100 < c) (c0 : 0 < c') (h4 : 2 * c' ≤ c) : ∃ k', k' < k ∧ Pt9 c' k' := by
  rcases h with ⟨h, _⟩ | ⟨t, rfl, ht⟩
  · omega
  · by_cases z : c' ≤ 100
    · exact ⟨c'.toNat, by omega, .inl ⟨z, by omega⟩⟩
    · cases t with
      | zero => exact absurd ht (by rw [Nat.pow_zero]; omega)
      | succ t => exact ⟨101 + t, by omega, .inr ⟨t, rfl, by rw [Nat.pow_succ] at ht; omega⟩⟩
theorem pt_less {c c' : Int} {k : Nat} (h : Pt9 c k) (hc : c ≤ 100) (c0 : 0 < c') (h4 : c' < c) : ∃ k', k' < k ∧ Pt9 c' k' := by
  refine ⟨c'.toNat, ?_, .inl ⟨by omega, by omega⟩⟩
  rcases h with ⟨_, h⟩ | ⟨t, rfl, ht⟩
  · omega
  · omega

/-! ### indefinite forms -/
theorem not_sq {D : Int} (h0 : 0 < D) (h : rootI D * rootI D ≠ D) (x : Int) : x * x ≠ D := by
  intro e
  obtain ⟨a, b, c⟩ := rootI_spec (n := D) (by omega)
  have n2 : ((x.natAbs : Int)) * (x.natAbs : Int) = D := by
    rw [← e, ← Int.natCast_mul, ← Int.natAbs_mul]
    have : 0 ≤ x * x := by omega
    omega
  rcases Int.lt_trichotomy (x.natAbs : Int) (rootI D) with z | z | z
  · have := Int.mul_le_mul (show (x.natAbs : Int) + 1 ≤ rootI D by omega) (show (x.natAbs : Int) + 1 ≤ rootI D by omega) (by omega) a
    have e2 : ((x.natAbs : Int) + 1) * ((x.natAbs : Int) + 1) = (x.natAbs : Int) * (x.natAbs : Int) + 2 * (x.natAbs : Int) + 1 := by grind
    omega
  · rw [z] at n2
    exact h n2
  · have := Int.mul_le_mul (show rootI D + 1 ≤ (x.natAbs : Int) by omega) (show rootI D + 1 ≤ (x.natAbs : Int) by omega) (by omega) (by omega)
    omega
/-- forms of the discriminant D, which is no square -/
structure IF (D a b c : Int) : Prop where
  d : dsc a b c = D
  d0 : 0 < D
  d1 : D ≤ 10000
  ns : rootI D * rootI D ≠ D
/-- reduced: point 3.4, by integers -/
def RedI (D a b : Int) : Prop := 0 < b ∧ b ≤ rootI D ∧ 2 * (a.natAbs : Int) - b ≤ rootI D ∧ rootI D < 2 * (a.natAbs : Int) + b
instance {D a b : Int} : Decidable (RedI D a b) := by unfold RedI; infer_instance
section
variable {D a b c : Int}
theorem IF.root (F : IF D a b c) : 0 ≤ rootI D ∧ rootI D < 100 ∧ rootI D * rootI D < D ∧ D < (rootI D + 1) * (rootI D + 1) := by
  obtain ⟨x, y, z⟩ := rootI_spec (n := D) (Int.le_of_lt F.d0)
  have h := F.ns
  have d1 := F.d1
  refine ⟨x, ?_, by omega, z⟩
  by_cases q : rootI D < 100
  · exact q
  · have := Int.mul_le_mul (show 100 ≤ rootI D by omega) (show 100 ≤ rootI D by omega) (by decide) x
    omega
theorem IF.c0 (F : IF D a b c) : c ≠ 0 := by
  rintro rfl
  have e := F.d
  unfold dsc at e
  exact not_sq F.d0 F.ns b (by omega)
theorem IF.a0 (F : IF D a b c) : a ≠ 0 := by
  rintro rfl
  have e := F.d
  unfold dsc at e
  exact not_sq F.d0 F.ns b (by rw [← e]; grind)
/-- the form behind (0, -1, 1, n) -/
theorem IF.go (F : IF D a b c) (n : Int) : IF D c (-b + 2 * c * n) (a - b * n + c * n * n) := by
  refine ⟨?_, F.d0, F.d1, F.ns⟩
  rw [← F.d]
  unfold dsc
  grind
theorem IF.cc (F : IF D a b c) : 4 * (a * c) = b * b - D := by
  have := F.d
  unfold dsc at this
  rw [Int.mul_assoc] at this
  omega
theorem prod_abs {x y z : Int} (h : 4 * (x * y) = z) : 4 * ((x.natAbs : Int) * (y.natAbs : Int)) = (z.natAbs : Int) := by
  rw [← h, Int.natAbs_mul, Int.natAbs_mul]
  rfl
theorem sq_abs (x : Int) : (x.natAbs : Int) * (x.natAbs : Int) = x * x := by
  rw [← Int.natCast_mul, ← Int.natAbs_mul]
  have : 0 ≤ x * x := by
    rcases Int.le_total 0 x with h | h
    · exact Int.mul_nonneg h h
    · exact Int.mul_nonneg_of_nonpos_of_nonpos h h
  omega
/-- a great c: |b'| <= |c| makes 4 |c'| <= |c| -/
theorem IF.far {b' c' : Int} (F : IF D c b' c') (hc : rootI D < (c.natAbs : Int)) (hb : (b'.natAbs : Int) ≤ (c.natAbs : Int)) : 4 * (c'.natAbs : Int) ≤ (c.natAbs : Int) := by
  obtain ⟨r0, r1, r2, r3⟩ := F.root
  have e := prod_abs F.cc
  have s1 : b' * b' ≤ (c.natAbs : Int) * (c.natAbs : Int) := by
    rw [← sq_abs b']
    exact Int.mul_le_mul hb hb (by omega) (by omega)
  have s2 : (rootI D + 1) * (rootI D + 1) ≤ (c.natAbs : Int) * (c.natAbs : Int) := Int.mul_le_mul (by omega) (by omega) (by omega) (by omega)
  have s3 : 0 ≤ b' * b' := by
    rw [← sq_abs]
    exact Int.mul_nonneg (by omega) (by omega)
  have d0 := F.d0
  have s4 : ((b' * b' - D).natAbs : Int) ≤ (c.natAbs : Int) * (c.natAbs : Int) := by omega
  rw [← e] at s4
  by_cases z : 4 * (c'.natAbs : Int) ≤ (c.natAbs : Int)
  · exact z
  · have p : 0 < (c.natAbs : Int) := by omega
    have t := Int.mul_lt_mul_of_pos_left (show (c.natAbs : Int) < 4 * (c'.natAbs : Int) by omega) p
    have t2 : (c.natAbs : Int) * (4 * (c'.natAbs : Int)) = 4 * ((c.natAbs : Int) * (c'.natAbs : Int)) := by grind
    omega
/-- a small c, and b' in its bounds: reduced, or c' less -/
theorem IF.near {b' c' : Int} (F : IF D c b' c') (hc : (c.natAbs : Int) ≤ rootI D) (h1 : rootI D - 2 * (c.natAbs : Int) < b') (h2 : b' ≤ rootI D) : RedI D c b' ∨ (c'.natAbs : Int) < (c.natAbs : Int) := by
  obtain ⟨r0, r1, r2, r3⟩ := F.root
  have c0 := F.a0
  by_cases z : 2 * (c.natAbs : Int) ≤ rootI D
  · exact .inl ⟨by omega, h2, by omega, by omega⟩
  · right
    have e := prod_abs F.cc
    have s1 : b' * b' ≤ rootI D * rootI D := by
      rw [← sq_abs b']
      exact Int.mul_le_mul (by omega) (by omega) (by omega) r0
    have s2 : (rootI D + 1) * (rootI D + 1) ≤ (2 * (c.natAbs : Int)) * (2 * (c.natAbs : Int)) := Int.mul_le_mul (by omega) (by omega) (by omega) (by omega)
    have s3 : 0 ≤ b' * b' := by
      rw [← sq_abs]
      exact Int.mul_nonneg (by omega) (by omega)
    have s5 : (2 * (c.natAbs : Int)) * (2 * (c.natAbs : Int)) = 4 * ((c.natAbs : Int) * (c.natAbs : Int)) := by grind
    by_cases y : (c'.natAbs : Int) < (c.natAbs : Int)
    · exact y
    · have t := Int.mul_le_mul_of_nonneg_left (show (c.natAbs : Int) ≤ (c'.natAbs : Int) by omega) (show 0 ≤ (c.natAbs : Int) by omega)
      omega
/-- c' is small as well -/
theorem IF.small {b' c' : Int} (F : IF D c b' c') (hb : b' * b' ≤ 10000) : (c'.natAbs : Int) ≤ 10000 := by
  have e := prod_abs F.cc
  have c0 := F.a0
  have d1 := F.d1
  have d0 := F.d0
  have s3 : 0 ≤ b' * b' := by
    rw [← sq_abs]
    exact Int.mul_nonneg (by omega) (by omega)
  have t := Int.mul_le_mul_of_nonneg_right (show 1 ≤ (c.natAbs : Int) by omega) (show 0 ≤ (c'.natAbs : Int) by omega)
  omega
end
/-- the middle number behind step_of, the step, the far step -/
def bN (D b c : Int) : Int := rootI D - (rootI D + b) % (2 * (c.natAbs : Int))
def nN (D b c : Int) : Int := (b + bN D b c).fdiv (2 * c)
def nF (b c : Int) : Int := (b + (c.natAbs : Int)).fdiv (2 * (c.natAbs : Int)) * (if 0 < c then 1 else -1)
theorem bN_spec {D b c : Int} (hc : c ≠ 0) : rootI D - 2 * (c.natAbs : Int) < bN D b c ∧ bN D b c ≤ rootI D ∧ -b + 2 * c * nN D b c = bN D b c := by
  have h0 : 0 < 2 * (c.natAbs : Int) := by omega
  have m0 := Int.emod_nonneg (rootI D + b) (show 2 * (c.natAbs : Int) ≠ 0 by omega)
  have m1 := Int.emod_lt_of_pos (rootI D + b) h0
  have m2 := Int.mul_ediv_add_emod (rootI D + b) (2 * (c.natAbs : Int))
  have dv : (2 * c) ∣ (b + bN D b c) := by
    have e : b + bN D b c = 2 * (c.natAbs : Int) * ((rootI D + b) / (2 * (c.natAbs : Int))) := by
      unfold bN
      omega
    rw [e]
    refine Int.dvd_trans ?_ (Int.dvd_mul_right _ _)
    rcases Int.natAbs_eq c with h | h
    · exact ⟨1, by omega⟩
    · exact ⟨-1, by omega⟩
  obtain ⟨k, hk⟩ := dv
  have hn : nN D b c = k := by
    unfold nN
    rw [hk, Int.mul_fdiv_cancel_left _ (by omega)]
  refine ⟨by unfold bN; omega, by unfold bN; omega, ?_⟩
  rw [hn, ← hk]
  omega
theorem nF_spec {b c : Int} (hc : c ≠ 0) : ((-b + 2 * c * nF b c).natAbs : Int) ≤ (c.natAbs : Int) := by
  have h0 : 0 < 2 * (c.natAbs : Int) := by omega
  unfold nF
  rw [Int.fdiv_eq_ediv_of_nonneg _ (by omega)]
  have m0 := Int.emod_nonneg (b + (c.natAbs : Int)) (show 2 * (c.natAbs : Int) ≠ 0 by omega)
  have m1 := Int.emod_lt_of_pos (b + (c.natAbs : Int)) h0
  have m2 := Int.mul_ediv_add_emod (b + (c.natAbs : Int)) (2 * (c.natAbs : Int))
  have e : 2 * c * ((b + (c.natAbs : Int)) / (2 * (c.natAbs : Int)) * (if 0 < c then 1 else -1)) = 2 * (c.natAbs : Int) * ((b + (c.natAbs : Int)) / (2 * (c.natAbs : Int))) := by
    generalize (b + (c.natAbs : Int)) / (2 * (c.natAbs : Int)) = x
    by_cases z : 0 < c
    · rw [if_pos z, Int.mul_one, show (c.natAbs : Int) = c by omega]
    · rw [if_neg z, show (c.natAbs : Int) = -c by omega]
      grind
  rw [e]
  omega
/-- how far it is -/
def Pt (R c : Int) (k : Nat) : Prop := ((c.natAbs : Int) ≤ R ∧ c.natAbs ≤ k) ∨ ∃ t, k = 101 + t ∧ c.natAbs < 2 ^ t
theorem Pt.far {R c c' : Int} {k : Nat} (hR : R < 100) (h : Pt R c k) (hc : R < (c.natAbs : Int)) (h4 : 4 * (c'.natAbs : Int) ≤ (c.natAbs : Int)) (hc0 : c ≠ 0) : ∃ k', k' < k ∧ Pt R c' k' := by
  rcases h with ⟨h, _⟩ | ⟨t, rfl, ht⟩
  · omega
  · by_cases z : (c'.natAbs : Int) ≤ R
    · exact ⟨c'.natAbs, by omega, .inl ⟨z, Nat.le_refl _⟩⟩
    · cases t with
      | zero => exact absurd ht (by rw [Nat.pow_zero]; omega)
      | succ t => exact ⟨101 + t, by omega, .inr ⟨t, rfl, by rw [Nat.pow_succ] at ht; omega⟩⟩
theorem Pt.near {R c c' : Int} {k : Nat} (h : Pt R c k) (hR : R < 100) (hc : (c.natAbs : Int) ≤ R) (h4 : (c'.natAbs : Int) < (c.natAbs : Int)) : ∃ k', k' < k ∧ Pt R c' k' := by
  refine ⟨c'.natAbs, ?_, .inl ⟨by omega, Nat.le_refl _⟩⟩
  rcases h with ⟨_, h⟩ | ⟨t, rfl, ht⟩
  · omega
  · omega
theorem n_size {b c n : Int} (hc : c ≠ 0) (hb : (b.natAbs : Int) ≤ 1099511627776) (h : ((-b + 2 * c * n).natAbs : Int) ≤ 1099511627776) : n.natAbs ≤ 2199023255552 := by
  have e : ((2 * c * n).natAbs : Int) = 2 * ((c.natAbs : Int) * (n.natAbs : Int)) := by
    rw [Int.mul_assoc, Int.natAbs_mul, Int.natAbs_mul]
    rfl
  have t := Int.mul_le_mul_of_nonneg_right (show 1 ≤ (c.natAbs : Int) by omega) (show 0 ≤ (n.natAbs : Int) by omega)
  omega

theorem IF.sizes {D a b c : Int} (F : IF D a b c) (R : RedI D a b) : ((c.natAbs : Int) ≤ rootI D) ∧ 2 * (c.natAbs : Int) ≤ rootI D + b ∧ ((a.natAbs : Int) ≤ rootI D) := by
  obtain ⟨r0, r1, r2, r3⟩ := F.root
  obtain ⟨q1, q2, q3, q4⟩ := R
  have e := prod_abs F.cc
  have a0 := F.a0
  have s1 : b * b ≤ rootI D * rootI D := Int.mul_le_mul q2 q2 (by omega) r0
  have e2 : ((b * b - D).natAbs : Int) = D - b * b := by omega
  rw [e2] at e
  have k : 2 * (c.natAbs : Int) ≤ rootI D + b := by
    by_cases z : 2 * (c.natAbs : Int) ≤ rootI D + b
    · exact z
    · have t := Int.mul_le_mul (show rootI D - b + 1 ≤ 2 * (a.natAbs : Int) by omega) (show rootI D + b + 1 ≤ 2 * (c.natAbs : Int) by omega) (by omega) (by omega)
      have e3 : (rootI D - b + 1) * (rootI D + b + 1) = (rootI D + 1) * (rootI D + 1) - b * b := by grind
      have e4 : 2 * (a.natAbs : Int) * (2 * (c.natAbs : Int)) = 4 * ((a.natAbs : Int) * (c.natAbs : Int)) := by grind
      omega
  exact ⟨by omega, k, by omega⟩
/-- the neighbour of a reduced form is reduced, and no other n leads to a reduced form -/
theorem IF.nb {D a b c : Int} (F : IF D a b c) (R : RedI D a b) : RedI D c (bN D b c) := by
  obtain ⟨r0, r1, r2, r3⟩ := F.root
  obtain ⟨s1, s2, s3⟩ := F.sizes R
  obtain ⟨q1, q2, q3, q4⟩ := R
  have c0 := F.c0
  obtain ⟨v1, v2, v3⟩ := bN_spec (D := D) (b := b) c0
  by_cases z : 2 * (c.natAbs : Int) ≤ rootI D
  · exact ⟨by omega, v2, by omega, by omega⟩
  · have m2 := Int.mul_ediv_add_emod (rootI D + b) (2 * (c.natAbs : Int))
    have e : (rootI D + b) / (2 * (c.natAbs : Int)) = 1 := by
      refine Int.ediv_eq_iff_of_pos (by omega) |>.mpr ?_
      omega
    rw [e] at m2
    have eb : bN D b c = 2 * (c.natAbs : Int) - b := by
      unfold bN
      omega
    rw [eb]
    exact ⟨by omega, by omega, by omega, by omega⟩
theorem IF.only {D a b c n : Int} (F : IF D a b c) (hn : n ≠ nN D b c) : ¬ RedI D c (-b + 2 * c * n) := by
  rintro ⟨q1, q2, q3, q4⟩
  have c0 := F.c0
  obtain ⟨v1, v2, v3⟩ := bN_spec (D := D) (b := b) c0
  have e : (-b + 2 * c * n) - bN D b c = 2 * (c * (n - nN D b c)) := by
    rw [← v3]
    grind
  have e2 : ((c * (n - nN D b c)).natAbs : Int) = (c.natAbs : Int) * ((n - nN D b c).natAbs : Int) := by
    rw [Int.natAbs_mul]
    rfl
  have t := Int.mul_le_mul_of_nonneg_left (show 1 ≤ ((n - nN D b c).natAbs : Int) by omega) (show 0 ≤ (c.natAbs : Int) by omega)
  omega
theorem IF.nbc {D a b c : Int} (F : IF D a b c) : (bN D b c * bN D b c - D).fdiv (4 * c) = a - b * nN D b c + c * nN D b c * nN D b c := by
  have c0 := F.c0
  obtain ⟨v1, v2, v3⟩ := bN_spec (D := D) (b := b) c0
  have G := (F.go (nN D b c)).cc
  rw [v3] at G
  rw [← G, ← Int.mul_assoc, Int.mul_fdiv_cancel_left _ (by omega)]

/-! ### split forms -/
/-- a direction: (x, y) without its measure, the sign set -/
def Dir (x y x' y' : Int) : Prop := (∃ g, g ≠ 0 ∧ x = g * x' ∧ y = g * y') ∧ gI x' y' = 1 ∧ (0 < x' ∨ (x' = 0 ∧ y' = 1))
/-- (x, y) is where one of the two lines of the form lies, with the middle number k behind it -/
def Ln (a b c k x y : Int) : Prop := 2 * a * x + b * y = -(k * y) ∧ b * x + 2 * c * y = k * x
theorem Ln.zero {a b c k x y : Int} (h : Ln a b c k x y) : fA a b c x y = 0 := by
  obtain ⟨h1, h2⟩ := h
  have e : 2 * fA a b c x y = x * (2 * a * x + b * y) + y * (b * x + 2 * c * y) := by
    unfold fA
    grind
  rw [h1, h2] at e
  have : x * -(k * y) + y * (k * x) = 0 := by grind
  omega
theorem Ln.mid {a b c k x y u v : Int} (h : Ln a b c k x y) (hd : u * x + v * y = 1) : fB a b c x (-v) y u = k := by
  obtain ⟨h1, h2⟩ := h
  have e : fB a b c x (-v) y u = -v * (2 * a * x + b * y) + u * (b * x + 2 * c * y) := by
    unfold fB
    grind
  rw [e, h1, h2]
  have : -v * -(k * y) + u * (k * x) = k * (u * x + v * y) := by grind
  rw [this, hd, Int.mul_one]
theorem Ln.of {a b c k g x y : Int} (hg : g ≠ 0) (h : Ln a b c k (g * x) (g * y)) : Ln a b c k x y := by
  obtain ⟨h1, h2⟩ := h
  constructor
  · refine Int.eq_of_mul_eq_mul_left hg ?_
    have e1 : g * (2 * a * x + b * y) = 2 * a * (g * x) + b * (g * y) := by grind
    have e2 : g * -(k * y) = -(k * (g * y)) := by grind
    rw [e1, e2]
    exact h1
  · refine Int.eq_of_mul_eq_mul_left hg ?_
    have e1 : g * (b * x + 2 * c * y) = b * (g * x) + 2 * c * (g * y) := by grind
    have e2 : g * (k * x) = k * (g * x) := by grind
    rw [e1, e2]
    exact h2
/-- the canonical split form is one -/
theorem split_one {k c c' p q r s : Int} (k0 : 0 < k) (hd : p * s - q * r = 1) (h1 : 0 ≤ c) (h2 : c < k) (h3 : 0 ≤ c') (h4 : c' < k) (ea : 0 = fA 0 k c p r) (eb : k = fB 0 k c p q r s) (ec : c' = fA 0 k c q s) : c = c' := by
  unfold fA at ea ec
  unfold fB at eb
  have e1 : r * (k * p + c * r) = 0 := by
    have : 0 * p * p + k * p * r + c * r * r = r * (k * p + c * r) := by grind
    omega
  rcases Int.mul_eq_zero.mp e1 with h | h
  · subst h
    have ps : p * s = 1 := by omega
    have hs : s.natAbs = 1 := by
      have h : p.natAbs * s.natAbs = 1 := by
        rw [← Int.natAbs_mul, ps]
        rfl
      exact Nat.dvd_one.mp ⟨p.natAbs, by rw [Nat.mul_comm]; exact h.symm⟩
    have s2 : s * s = 1 := by
      rcases Int.natAbs_eq s with h3 | h3 <;> rw [h3, hs] <;> rfl
    have e2 : c' = k * (q * s) + c := by
      have : 0 * q * q + k * q * s + c * s * s = k * (q * s) + c * (s * s) := by grind
      rw [s2] at this
      omega
    generalize q * s = t at e2
    have : t = 0 := by
      rcases Int.lt_trichotomy t 0 with h | h | h
      · have := Int.mul_le_mul_of_nonneg_left (show t ≤ -1 by omega) (show 0 ≤ k by omega)
        omega
      · exact h
      · have := Int.mul_le_mul_of_nonneg_left (show 1 ≤ t by omega) (show 0 ≤ k by omega)
        omega
    subst this
    omega
  · exfalso
    have e2 : 2 * 0 * p * q + k * (p * s + q * r) + 2 * c * r * s = k * (q * r - p * s) + 2 * s * (k * p + c * r) := by grind
    rw [h, show q * r - p * s = -1 by omega] at e2
    omega
theorem gL_two (x y : Int) : gL [x, y] = ((Nat.gcd x.natAbs y.natAbs : Nat) : Int) := by
  unfold gL
  simp [gI]
theorem dir_of {x y G g : Int} (h : x ≠ 0 ∨ y ≠ 0) (hG : G = ((Nat.gcd x.natAbs y.natAbs : Nat) : Int)) (hg : g = if x < 0 ∨ (x = 0 ∧ y < 0) then -G else G) : g ≠ 0 ∧ Dir x y (x.fdiv g) (y.fdiv g) ∧ (x.fdiv g).natAbs ≤ x.natAbs ∧ (y.fdiv g).natAbs ≤ y.natAbs := by
  have hp : 0 < Nat.gcd x.natAbs y.natAbs := by
    rcases h with h | h
    · exact Nat.gcd_pos_of_pos_left _ (by omega)
    · exact Nat.gcd_pos_of_pos_right _ (by omega)
  have g0 : g ≠ 0 := by
    rw [hg]
    split <;> omega
  have ga : g.natAbs = Nat.gcd x.natAbs y.natAbs := by
    rw [hg, hG]
    split <;> omega
  have dx : g ∣ x := Int.natAbs_dvd_natAbs.mp (by rw [ga]; exact Nat.gcd_dvd_left _ _)
  have dy : g ∣ y := Int.natAbs_dvd_natAbs.mp (by rw [ga]; exact Nat.gcd_dvd_right _ _)
  obtain ⟨x', hx⟩ := dx
  obtain ⟨y', hy⟩ := dy
  have ex : x.fdiv g = x' := by rw [hx, Int.mul_fdiv_cancel_left _ g0]
  have ey : y.fdiv g = y' := by rw [hy, Int.mul_fdiv_cancel_left _ g0]
  rw [ex, ey]
  have co : Nat.gcd x'.natAbs y'.natAbs = 1 := by
    have e : Nat.gcd x.natAbs y.natAbs = Nat.gcd x.natAbs y.natAbs * Nat.gcd x'.natAbs y'.natAbs := by
      conv => lhs; rw [hx, hy, Int.natAbs_mul, Int.natAbs_mul, Nat.gcd_mul_left, ga]
    exact (Nat.eq_of_mul_eq_mul_left hp (by rw [Nat.mul_one]; exact e)).symm
  have l1 : x'.natAbs ≤ x.natAbs := by
    rw [hx, Int.natAbs_mul]
    exact Nat.le_mul_of_pos_left _ (by omega)
  have l2 : y'.natAbs ≤ y.natAbs := by
    rw [hy, Int.natAbs_mul]
    exact Nat.le_mul_of_pos_left _ (by omega)
  refine ⟨g0, ⟨⟨g, g0, hx, hy⟩, by unfold gI; rw [co]; rfl, ?_⟩, l1, l2⟩
  have G0 : 0 < G := by omega
  by_cases z : x < 0 ∨ (x = 0 ∧ y < 0)
  · rw [if_pos z] at hg
    rcases z with z | ⟨z1, z2⟩
    · left
      rcases Int.lt_trichotomy x' 0 with k | k | k
      · have := Int.mul_pos_of_neg_of_neg (show g < 0 by omega) k
        omega
      · subst k
        omega
      · exact k
    · right
      have x0 : x' = 0 := by
        rw [z1] at hx
        exact (Int.mul_eq_zero.mp hx.symm).resolve_left g0
      subst x0
      refine ⟨rfl, ?_⟩
      have y1 : y'.natAbs = 1 := by
        have := co
        simp at this
        exact this
      rcases Int.lt_trichotomy y' 0 with k | k | k
      · have := Int.mul_pos_of_neg_of_neg (show g < 0 by omega) k
        omega
      · subst k
        omega
      · omega
  · rw [if_neg z] at hg
    by_cases w : x = 0
    · right
      have x0 : x' = 0 := by
        rw [w] at hx
        exact (Int.mul_eq_zero.mp hx.symm).resolve_left g0
      subst x0
      refine ⟨rfl, ?_⟩
      have y1 : y'.natAbs = 1 := by
        have := co
        simp at this
        exact this
      rcases Int.lt_trichotomy y' 0 with k | k | k
      · have := Int.mul_neg_of_pos_of_neg (show 0 < g by omega) k
        omega
      · subst k
        omega
      · omega
    · left
      rcases Int.lt_trichotomy x' 0 with k | k | k
      · have := Int.mul_neg_of_pos_of_neg (show 0 < g by omega) k
        omega
      · subst k
        omega
      · exact k
theorem ln0 (b c : Int) : Ln 0 b c (-b) c (-b) := by
  constructor
  · grind
  · grind
theorem ln1 {a b c k : Int} (hd : b * b - 4 * a * c = k * k) : Ln a b c (-k) (k - b) (2 * a) ∧ Ln a b c (- -k) (-k - b) (2 * a) := by
  have e : b * (k - b) + 2 * c * (2 * a) = k * b - (b * b - 4 * a * c) := by grind
  have e2 : b * (-k - b) + 2 * c * (2 * a) = -(k * b) - (b * b - 4 * a * c) := by grind
  refine ⟨⟨?_, ?_⟩, ⟨?_, ?_⟩⟩
  · grind
  · rw [e, hd]
    grind
  · grind
  · rw [e2, hd]
    grind
/-- a split form of the root k -/
structure SF (k a b c : Int) : Prop where
  d : dsc a b c = k * k
  k0 : 0 < k
theorem SF.root {k a b c : Int} (F : SF k a b c) : rootI (b * b - 4 * a * c) = k := by
  have d : b * b - 4 * a * c = k * k := F.d
  have k0 := F.k0
  have e : k * k < (k + 1) * (k + 1) := by
    have : (k + 1) * (k + 1) = k * k + 2 * k + 1 := by grind
    omega
  rw [d]
  exact (rootI_uniq (Int.mul_nonneg (by omega) (by omega)) (by omega) (Int.le_refl _) e).symm
/-- a line: its point, the sign of the middle number behind it -/
structure Pt2 (a b c k x y : Int) : Prop where
  g : gI x y = 1
  s : 0 < x ∨ (x = 0 ∧ y = 1)
  l : Ln a b c k x y
  b1 : x.natAbs ≤ 35184372088832
  b2 : y.natAbs ≤ 35184372088832
theorem iteVV {i j : Nat} {σ : L2.St} {H : Hp} {Q : VK} {c : Prop} [Decidable c] {v : V} (h1 : c → σ[i]? = some (some v)) (h2 : ¬ c → σ[j]? = some (some v)) (q : Q v H) : if decide c = true then tVar i σ H Q else tVar j σ H Q := by
  by_cases h : c
  · rw [if_pos (decide_eq_true h)]
    exact ⟨v, h1 h, q⟩
  · rw [if_neg (fun z => h (of_decide_eq_true z))]
    exact ⟨v, h2 h, q⟩
/-- what canonical_split gives -/
structure CS (k a b c c' p q r s : Int) : Prop where
  c0 : 0 ≤ c'
  c1 : c' < k
  det : p * s - q * r = 1
  ea : 0 = fA a b c p r
  eb : k = fB a b c p q r s
  ec : c' = fA a b c q s
theorem upd_seqT {K : PySem.W.Frag} {H : Hp} {D a : Addr} {ys zs xs : List V} (hD : H D = some (.lst ys)) (h : SqT K H a xs) : SqT K (upd H D (.lst zs)) a xs := by
  rcases h with (h | ⟨o, h⟩) | h
  · refine .inl (.inl ((upd_ne ?_).trans h))
    rintro rfl
    rw [hD] at h
    cases h
  · refine .inl (.inr ⟨o, (upd_ne ?_).trans h⟩)
    rintro rfl
    rw [hD] at h
    cases h
  · exact .inr h
theorem cs_of {k a b c x y u v : Int} (k0 : 0 < k) (d : u * x + v * y = 1) (l : Ln a b c k x y) : CS k a b c (fA a b c (-v) u % k) (x * 1 + -v * 0) (x * -((fA a b c (-v) u).fdiv k) + -v * 1) (y * 1 + u * 0) (y * -((fA a b c (-v) u).fdiv k) + u * 1) := by
  have z := l.zero
  have m := l.mid d
  have e := Int.mul_ediv_add_emod (fA a b c (-v) u) k
  rw [← Int.fdiv_eq_ediv_of_nonneg _ (by omega)] at e
  generalize hn : (fA a b c (-v) u).fdiv k = n at *
  refine ⟨Int.emod_nonneg _ (by omega), Int.emod_lt_of_pos _ k0, ?_, ?_, ?_, ?_⟩
  · grind
  · rw [show x * 1 + -v * 0 = x by omega, show y * 1 + u * 0 = y by omega, z]
  · have e3 : fB a b c (x * 1 + -v * 0) (x * -n + -v * 1) (y * 1 + u * 0) (y * -n + u * 1) = 2 * -n * fA a b c x y + fB a b c x (-v) y u := by
      unfold fA fB
      grind
    rw [e3, z, m]
    omega
  · have e3 : fA a b c (x * -n + -v * 1) (y * -n + u * 1) = n * n * fA a b c x y + -n * fB a b c x (-v) y u + fA a b c (-v) u := by
      unfold fA fB
      grind
    rw [e3, z, m]
    have : -n * k = -(k * n) := by grind
    omega

/-! ### flat forms -/
structure FL (a b c g p q : Int) : Prop where
  ea : a = g * (p * p)
  eb : b = 2 * (g * (p * q))
  ec : c = g * (q * q)
  co : gI p q = 1
  sg : 0 < p ∨ (p = 0 ∧ q = 1)
  g0 : g ≠ 0
theorem gL_three (x y z : Int) : gL [x, y, z] = ((Nat.gcd (Nat.gcd x.natAbs y.natAbs) z.natAbs : Nat) : Int) := by
  unfold gL
  simp [gI]
theorem FL.content {a b c g p q : Int} (h : FL a b c g p q) : gL [a, b, c] = (g.natAbs : Int) := by
  obtain ⟨ea, eb, ec, co, sg, g0⟩ := h
  rw [gL_three]
  have e1 : a.natAbs = g.natAbs * (p.natAbs * p.natAbs) := by rw [ea, Int.natAbs_mul, Int.natAbs_mul]
  have e2 : b.natAbs = g.natAbs * (2 * (p.natAbs * q.natAbs)) := by
    rw [eb, Int.natAbs_mul, Int.natAbs_mul, Int.natAbs_mul]
    show 2 * (g.natAbs * (p.natAbs * q.natAbs)) = _
    ac_rfl
  have e3 : c.natAbs = g.natAbs * (q.natAbs * q.natAbs) := by rw [ec, Int.natAbs_mul, Int.natAbs_mul]
  have co2 : Nat.Coprime p.natAbs q.natAbs := by
    have : ((Nat.gcd p.natAbs q.natAbs : Nat) : Int) = 1 := co
    show Nat.gcd p.natAbs q.natAbs = 1
    omega
  have c2 : Nat.Coprime (p.natAbs * p.natAbs) (q.natAbs * q.natAbs) := Nat.Coprime.mul_left (Nat.Coprime.mul_right co2 co2) (Nat.Coprime.mul_right co2 co2)
  have c3 : Nat.gcd (Nat.gcd (p.natAbs * p.natAbs) (2 * (p.natAbs * q.natAbs))) (q.natAbs * q.natAbs) = 1 := by
    refine Nat.dvd_one.mp ?_
    rw [← c2]
    exact Nat.dvd_gcd (Nat.dvd_trans (Nat.gcd_dvd_left _ _) (Nat.gcd_dvd_left _ _)) (Nat.gcd_dvd_right _ _)
  rw [e1, e2, e3, Nat.gcd_mul_left, Nat.gcd_mul_left, c3, Nat.mul_one]
theorem FL.of {a b c g P Q : Int} (g0 : g ≠ 0) (h : P ≠ 0 ∨ Q ≠ 0) (ea : a = g * (P * P)) (eb : b = 2 * (g * (P * Q))) (ec : c = g * (Q * Q)) : ∃ g' p q, FL a b c g' p q := by
  obtain ⟨h0, ⟨⟨k, k0, e1, e2⟩, co, sg⟩, _, _⟩ := dir_of (x := P) (y := Q) (g := if P < 0 ∨ (P = 0 ∧ Q < 0) then -((Nat.gcd P.natAbs Q.natAbs : Nat) : Int) else ((Nat.gcd P.natAbs Q.natAbs : Nat) : Int)) h rfl rfl
  generalize P.fdiv _ = p at *
  generalize Q.fdiv _ = q at *
  refine ⟨g * (k * k), p, q, ?_, ?_, ?_, co, sg, ?_⟩
  · rw [ea, e1]
    grind
  · rw [eb, e1, e2]
    grind
  · rw [ec, e2]
    grind
  · intro z
    rcases Int.mul_eq_zero.mp z with w | w
    · exact g0 w
    · exact k0 ((Int.mul_eq_zero.mp w).elim id id)
def FlatR (a b c g p q : Int) : Prop := (a = 0 ∧ b = 0 ∧ c = 0 ∧ g = 0 ∧ p = 1 ∧ q = 0) ∨ FL a b c g p q
theorem em_step {a b i B : Nat} (hb : b ≠ 0) (h : (i = 0 ∧ a * b * 2 < B) ∨ (b ≤ a ∧ a * b * 2 ^ i < B)) : a % b ≤ b ∧ b * (a % b) * 2 ^ (i + 1) < B := by
  have h1 : a % b < b := Nat.mod_lt _ (by omega)
  refine ⟨by omega, ?_⟩
  rcases h with ⟨rfl, h⟩ | ⟨hl, h⟩
  · have h2 : b * (a % b) ≤ b * a := Nat.mul_le_mul_left _ (Nat.mod_le _ _)
    rw [Nat.mul_comm b a] at h2
    have e : (2 : Nat) ^ (0 + 1) = 2 := rfl
    rw [e]
    omega
  · have h2 : 2 * (a % b) ≤ a := by
      have h3 := Nat.div_add_mod a b
      have h4 : 1 ≤ a / b := Nat.div_pos hl (by omega)
      have h5 : b * 1 ≤ b * (a / b) := Nat.mul_le_mul_left _ h4
      omega
    have h3 : b * (2 * (a % b)) ≤ b * a := Nat.mul_le_mul_left _ h2
    have e : b * (a % b) * 2 ^ (i + 1) = b * (2 * (a % b)) * 2 ^ i := by
      rw [Nat.pow_succ]
      ac_rfl
    rw [e]
    refine Nat.lt_of_le_of_lt (Nat.mul_le_mul_right _ h3) ?_
    rw [Nat.mul_comm b a]
    exact h

theorem em_end5 {a b G B : Nat} (hG : Nat.gcd a b = G) (h : (5000 = 0 ∧ a * b * 2 < B) ∨ (b ≤ a ∧ a * b * 2 ^ 5000 < B)) (hB : B ≤ 2 ^ 5000) : a = G := by
  rcases h with ⟨h, _⟩ | ⟨hl, h⟩
  · cases h
  · have h1 : a * b = 0 := by
      by_cases z : a * b = 0
      · exact z
      · have h2 : 1 * 2 ^ 5000 ≤ a * b * 2 ^ 5000 := Nat.mul_le_mul_right _ (by omega)
        rw [Nat.one_mul] at h2
        omega
    have hb : b = 0 := by
      rcases Nat.mul_eq_zero.mp h1 with z | z
      · omega
      · exact z
    rw [hb, Nat.gcd_zero_right] at hG
    exact hG

/-! ### the river -/
/-- a slope's order: where the form is above 0 comes ahead -/
theorem rv_slope {a b c x y u v : Int} (ha : 0 < a) (hc : c < 0) (x0 : 0 ≤ x) (y0 : 0 ≤ y) (u0 : 0 ≤ u) (v0 : 0 ≤ v) (h1 : 0 < fA a b c x y) (h2 : fA a b c u v < 0) : 0 < x * v - y * u := by
  by_cases z : 0 < x * v - y * u
  · exact z
  · exfalso
    have le : x * v ≤ y * u := by omega
    have v1 : 0 < v := by
      rcases Int.lt_or_le 0 v with k | k
      · exact k
      · have : v = 0 := by omega
        subst this
        have e : fA a b c u 0 = a * (u * u) := by unfold fA; grind
        have := Int.mul_nonneg (Int.le_of_lt ha) (Int.mul_nonneg u0 u0)
        omega
    have x1 : 0 < x := by
      rcases Int.lt_or_le 0 x with k | k
      · exact k
      · have : x = 0 := by omega
        subst this
        have e : fA a b c 0 y = c * (y * y) := by unfold fA; grind
        have := Int.mul_nonneg (show 0 ≤ -c by omega) (Int.mul_nonneg y0 y0)
        rw [Int.neg_mul] at this
        omega
    have xv := Int.mul_pos x1 v1
    have y1 : 0 < y := by
      rcases Int.lt_or_le 0 y with k | k
      · exact k
      · have : y = 0 := by omega
        subst this
        omega
    have u1 : 0 < u := by
      rcases Int.lt_or_le 0 u with k | k
      · exact k
      · have : u = 0 := by omega
        subst this
        omega
    have e : x * y * fA a b c u v - u * v * fA a b c x y = (y * u - x * v) * (a * (u * x) + -c * (v * y)) := by unfold fA; grind
    have p1 := Int.mul_nonneg (show 0 ≤ y * u - x * v by omega) (Int.add_nonneg (Int.mul_nonneg (Int.le_of_lt ha) (Int.mul_nonneg u0 x0)) (Int.mul_nonneg (show 0 ≤ -c by omega) (Int.mul_nonneg v0 y0)))
    have p2 := Int.mul_pos (Int.mul_pos u1 v1) h1
    have p3 := Int.mul_neg_of_pos_of_neg (Int.mul_pos x1 y1) h2
    omega
theorem rv_neg {a b c x y : Int} : fA a b c (-x) (-y) = fA a b c x y := by unfold fA; grind
theorem rv_mir {a b c x y : Int} : fA a (-b) c x (-y) = fA a b c x y := by unfold fA; grind
/-- all of one sign, or the inverse so -/
theorem rv_signs {a b c p q r s : Int} (ha : 0 < a) (hc : c < 0) (hd : p * s - q * r = 1) (h1 : 0 < fA a b c p r) (h2 : fA a b c q s < 0) (p0 : 0 ≤ p) :
    (0 ≤ r ∧ 0 ≤ q ∧ 0 ≤ s) ∨ (r ≤ 0 ∧ q ≤ 0 ∧ 0 ≤ s) ∨ (p = 0 ∧ r ≤ 0 ∧ q ≤ 0 ∧ s ≤ 0) ∨ (p = 0 ∧ 0 ≤ r ∧ 0 ≤ q ∧ s ≤ 0) := by
  have pz : ∀ z : Int, p = 0 → False := by
    intro _ hp
    subst hp
    have e : fA a b c 0 r = c * (r * r) := by unfold fA; grind
    have rr : 0 ≤ r * r := by
      rcases Int.le_total 0 r with k | k
      · exact Int.mul_nonneg k k
      · exact Int.mul_nonneg_of_nonpos_of_nonpos k k
    have := Int.mul_nonneg (show 0 ≤ -c by omega) rr
    rw [Int.neg_mul] at this
    omega
  have p1 : 0 < p := by
    rcases Int.lt_or_le 0 p with k | k
    · exact k
    · exact (pz 0 (by omega)).elim
  have s1 : s ≠ 0 := by
    intro hs
    subst hs
    have e : fA a b c q 0 = a * (q * q) := by unfold fA; grind
    have rr : 0 ≤ q * q := by
      rcases Int.le_total 0 q with k | k
      · exact Int.mul_nonneg k k
      · exact Int.mul_nonneg_of_nonpos_of_nonpos k k
    have := Int.mul_nonneg (Int.le_of_lt ha) rr
    omega
  rcases Int.le_total 0 r with r0 | r0
  · rcases Int.le_total 0 q with q0 | q0
    · rcases Int.lt_or_gt_of_ne s1 with k | k
      · have a1 := Int.mul_neg_of_pos_of_neg p1 k
        have a2 := Int.mul_nonneg q0 r0
        omega
      · exact .inl ⟨r0, q0, by omega⟩
    · rcases Int.lt_or_gt_of_ne s1 with k | k
      · have := rv_slope ha hc p0 r0 (show 0 ≤ -q by omega) (show 0 ≤ -s by omega) h1 (by rw [rv_neg]; exact h2)
        have e : p * -s - r * -q = -(p * s - q * r) := by grind
        omega
      · by_cases rz : r = 0
        · exact .inr (.inl ⟨by omega, q0, by omega⟩)
        · by_cases qz : q = 0
          · exact .inl ⟨r0, by omega, by omega⟩
          · have a1 := Int.mul_pos p1 k
            have a2 := Int.mul_neg_of_neg_of_pos (show q < 0 by omega) (show 0 < r by omega)
            omega
  · rcases Int.le_total 0 q with q0 | q0
    · rcases Int.lt_or_gt_of_ne s1 with k | k
      · have := rv_slope (b := -b) ha hc p0 (show 0 ≤ -r by omega) q0 (show 0 ≤ -s by omega) (by rw [rv_mir]; exact h1) (by rw [rv_mir]; exact h2)
        have e : p * -s - -r * q = -(p * s - q * r) := by grind
        omega
      · by_cases rz : r = 0
        · exact .inl ⟨by omega, q0, by omega⟩
        · by_cases qz : q = 0
          · exact .inr (.inl ⟨r0, by omega, by omega⟩)
          · have a1 := Int.mul_pos p1 k
            have a2 := Int.mul_neg_of_pos_of_neg (show 0 < q by omega) (show r < 0 by omega)
            omega
    · rcases Int.lt_or_gt_of_ne s1 with k | k
      · have a1 := Int.mul_neg_of_pos_of_neg p1 k
        have a2 := Int.mul_nonneg_of_nonpos_of_nonpos q0 r0
        omega
      · exact .inr (.inl ⟨r0, q0, by omega⟩)
abbrev Fm := Int × Int × Int
def actF (f : Fm) (p q r s : Int) : Fm := (fA f.1 f.2.1 f.2.2 p r, fB f.1 f.2.1 f.2.2 p q r s, fA f.1 f.2.1 f.2.2 q s)
theorem fm_ext {f g : Fm} (h1 : f.1 = g.1) (h2 : f.2.1 = g.2.1) (h3 : f.2.2 = g.2.2) : f = g := Prod.ext h1 (Prod.ext h2 h3)
theorem actF_mul (f : Fm) (p q r s x z y w : Int) : actF (actF f p q r s) x z y w = actF f (p * x + q * y) (p * z + q * w) (r * x + s * y) (r * z + s * w) := by
  unfold actF
  refine fm_ext ?_ ?_ ?_ <;> (dsimp only; (try unfold fA); (try unfold fB); grind)
theorem actF_one (f : Fm) : actF f 1 0 0 1 = f := by
  unfold actF
  refine fm_ext ?_ ?_ ?_ <;> (dsimp only; (try unfold fA); (try unfold fB); grind)
theorem actF_neg (f : Fm) (p q r s : Int) : actF f (-p) (-q) (-r) (-s) = actF f p q r s := by
  unfold actF
  refine fm_ext ?_ ?_ ?_ <;> (dsimp only; (try unfold fA); (try unfold fB); grind)
theorem actF_inv (f : Fm) {p q r s : Int} (hd : p * s - q * r = 1) : actF (actF f p q r s) s (-q) (-r) p = f := by
  rw [actF_mul]
  have e1 : p * s + q * -r = 1 := by rw [← hd]; grind
  have e2 : p * -q + q * p = 0 := by grind
  have e3 : r * s + s * -r = 0 := by grind
  have e4 : r * -q + s * p = 1 := by rw [← hd]; grind
  rw [e1, e2, e3, e4, actF_one]
/-- a > 0 > c -/
def Riv (f : Fm) : Prop := 0 < f.1 ∧ f.2.2 < 0
/-- the next one along the river -/
def nxR (f : Fm) : Fm := if f.1 + f.2.1 + f.2.2 < 0 then (f.1, f.2.1 + 2 * f.1, f.1 + f.2.1 + f.2.2) else (f.1 + f.2.1 + f.2.2, f.2.1 + 2 * f.2.2, f.2.2)
def nxN : Nat → Fm → Fm
  | 0, f => f
  | k + 1, f => nxN k (nxR f)
theorem actF_R (f : Fm) : actF f 1 1 0 1 = (f.1, f.2.1 + 2 * f.1, f.1 + f.2.1 + f.2.2) := by
  unfold actF
  refine fm_ext ?_ ?_ ?_ <;> (dsimp only; (try unfold fA); (try unfold fB); grind)
theorem actF_L (f : Fm) : actF f 1 0 1 1 = (f.1 + f.2.1 + f.2.2, f.2.1 + 2 * f.2.2, f.2.2) := by
  unfold actF
  refine fm_ext ?_ ?_ ?_ <;> (dsimp only; (try unfold fA); (try unfold fB); grind)
/-- a matrix of numbers not below 0 is a way along the river -/
theorem rv_way : ∀ (n : Nat) (f : Fm) (p q r s : Int), 0 ≤ p → 0 ≤ q → 0 ≤ r → 0 ≤ s → p * s - q * r = 1 → p + q + r + s ≤ (n : Int) → Riv f → Riv (actF f p q r s) → ∃ k, nxN k f = actF f p q r s
  | 0, f, p, q, r, s, p0, q0, r0, s0, hd, hn, _, _ => by
    have e1 : p = 0 := by omega
    have e2 : q = 0 := by omega
    rw [e1, e2] at hd
    omega
  | n + 1, f, p, q, r, s, p0, q0, r0, s0, hd, hn, hf, hg => by
    obtain ⟨a, b, c⟩ := f
    obtain ⟨ha, hc⟩ := hf
    obtain ⟨g1, g2⟩ := hg
    dsimp only [actF] at ha hc g1 g2
    by_cases c1 : r ≤ p ∧ s ≤ q
    · -- R in front
      obtain ⟨c1, c2⟩ := c1
      have e : actF (a, b, c) p q r s = actF (actF (a, b, c) 1 1 0 1) (p - r) (q - s) r s := by
        rw [actF_mul]
        congr 1 <;> omega
      have hneg : a + b + c < 0 := by
        by_cases z : a + b + c < 0
        · exact z
        · exfalso
          have e2 : fA a b c q s = a * ((q - s) * (q - s)) + (a + (a + b + c) + -c) * ((q - s) * s) + (a + b + c) * (s * s) := by unfold fA; grind
          have t1 := Int.mul_nonneg (Int.le_of_lt ha) (Int.mul_nonneg (show 0 ≤ q - s by omega) (show 0 ≤ q - s by omega))
          have t2 := Int.mul_nonneg (show 0 ≤ a + (a + b + c) + -c by omega) (Int.mul_nonneg (show 0 ≤ q - s by omega) s0)
          have t3 := Int.mul_nonneg (show 0 ≤ a + b + c by omega) (Int.mul_nonneg s0 s0)
          omega
      have en : nxR (a, b, c) = actF (a, b, c) 1 1 0 1 := by
        rw [actF_R]
        unfold nxR
        rw [if_pos hneg]
      have rs : 0 < r + s := by
        rcases Int.lt_or_le 0 (r + s) with k | k
        · exact k
        · have e3 : r = 0 := by omega
          have e4 : s = 0 := by omega
          rw [e3, e4] at hd
          omega
      obtain ⟨k, hk⟩ := rv_way n (actF (a, b, c) 1 1 0 1) (p - r) (q - s) r s (by omega) (by omega) r0 s0 (by rw [← hd]; grind) (by omega) (by rw [actF_R]; exact ⟨ha, hneg⟩) (by rw [← e]; exact ⟨g1, g2⟩)
      exact ⟨k + 1, by rw [e, ← hk, ← en]; rfl⟩
    · by_cases c2 : p ≤ r ∧ q ≤ s
      · obtain ⟨c2, c3⟩ := c2
        have e : actF (a, b, c) p q r s = actF (actF (a, b, c) 1 0 1 1) p q (r - p) (s - q) := by
          rw [actF_mul]
          congr 1 <;> omega
        have hpos : 0 < a + b + c := by
          by_cases z : 0 < a + b + c
          · exact z
          · exfalso
            have e2 : fA a b c p r = (a + b + c) * (p * p) + ((a + b + c) + -a + c) * (p * (r - p)) + c * ((r - p) * (r - p)) := by unfold fA; grind
            have t1 := Int.mul_nonneg (show 0 ≤ -(a + b + c) by omega) (Int.mul_nonneg p0 p0)
            have t2 := Int.mul_nonneg (show 0 ≤ -((a + b + c) + -a + c) by omega) (Int.mul_nonneg p0 (show 0 ≤ r - p by omega))
            have t3 := Int.mul_nonneg (show 0 ≤ -c by omega) (Int.mul_nonneg (show 0 ≤ r - p by omega) (show 0 ≤ r - p by omega))
            rw [Int.neg_mul] at t1 t2 t3
            omega
        have en : nxR (a, b, c) = actF (a, b, c) 1 0 1 1 := by
          rw [actF_L]
          unfold nxR
          rw [if_neg (by dsimp only; omega)]
        have pq : 0 < p + q := by
          rcases Int.lt_or_le 0 (p + q) with k | k
          · exact k
          · have e3 : p = 0 := by omega
            have e4 : q = 0 := by omega
            rw [e3, e4] at hd
            omega
        obtain ⟨k, hk⟩ := rv_way n (actF (a, b, c) 1 0 1 1) p q (r - p) (s - q) p0 q0 (by omega) (by omega) (by rw [← hd]; grind) (by omega) (by rw [actF_L]; exact ⟨hpos, hc⟩) (by rw [← e]; exact ⟨g1, g2⟩)
        exact ⟨k + 1, by rw [e, ← hk, ← en]; rfl⟩
      · -- neither row above the other: the unit
        have key : p = 1 ∧ q = 0 ∧ r = 0 ∧ s = 1 := by
          by_cases z : r < p
          · have zs : q < s := by omega
            have t := Int.mul_le_mul (show r + 1 ≤ p by omega) (show q + 1 ≤ s by omega) (by omega) p0
            have e2 : (r + 1) * (q + 1) = q * r + r + q + 1 := by grind
            have r00 : r = 0 := by omega
            have q00 : q = 0 := by omega
            rw [r00, q00] at hd
            have ps : p * s = 1 := by omega
            have p1 : p = 1 := by
              rcases Int.lt_or_le 1 p with k | k
              · have := Int.mul_le_mul (show 2 ≤ p by omega) (show 1 ≤ s by omega) (by decide) p0
                omega
              · omega
            rw [p1] at ps
            exact ⟨p1, q00, r00, by omega⟩
          · exfalso
            have zs : s < q := by omega
            have pr : p ≤ r := by omega
            have t := Int.mul_le_mul pr (show s ≤ q by omega) s0 r0
            have : r * q = q * r := Int.mul_comm _ _
            omega
        obtain ⟨rfl, rfl, rfl, rfl⟩ := key
        exact ⟨0, by rw [actF_one]; rfl⟩
theorem rv_one {f : Fm} {p q r s : Int} (hd : p * s - q * r = 1) (hf : Riv f) (hg : Riv (actF f p q r s)) : (∃ k, nxN k f = actF f p q r s) ∨ ∃ k, nxN k (actF f p q r s) = f := by
  have main : ∀ p q r s : Int, 0 ≤ p → p * s - q * r = 1 → Riv (actF f p q r s) → (∃ k, nxN k f = actF f p q r s) ∨ ∃ k, nxN k (actF f p q r s) = f := by
    intro p q r s p0 hd hg
    rcases rv_signs hf.1 hf.2 hd hg.1 hg.2 p0 with ⟨r0, q0, s0⟩ | ⟨r0, q0, s0⟩ | ⟨p1, r0, q0, s0⟩ | ⟨p1, r0, q0, s0⟩
    · exact .inl (rv_way (p + q + r + s).toNat f p q r s p0 q0 r0 s0 hd (by omega) hf hg)
    · right
      have e := actF_inv f hd
      have h := rv_way (s + -q + -r + p).toNat (actF f p q r s) s (-q) (-r) p s0 (by omega) (by omega) p0 (by rw [← hd]; grind) (by omega) hg (by rw [e]; exact hf)
      rw [e] at h
      exact h
    · rw [p1] at hd
      have h1 := Int.mul_nonneg_of_nonpos_of_nonpos q0 r0
      omega
    · rw [p1] at hd
      have h1 := Int.mul_nonneg q0 r0
      omega
  rcases Int.le_total 0 p with p0 | p0
  · exact main p q r s p0 hd hg
  · have e := actF_neg f p q r s
    have h := main (-p) (-q) (-r) (-s) (by omega) (by rw [← hd]; grind) (by rw [e]; exact hg)
    rw [e] at h
    exact h

/-! ### the turnings are the reduced forms -/
def IFf (D : Int) (f : Fm) : Prop := IF D f.1 f.2.1 f.2.2
def RDf (D : Int) (f : Fm) : Prop := RedI D f.1 f.2.1
def rdF (f : Fm) : Prop := f.1 * f.2.2 < 0 ∧ 0 < f.1 + f.2.1 + f.2.2 ∧ f.1 - f.2.1 + f.2.2 < 0
theorem IFf.act {D : Int} {f : Fm} (F : IFf D f) {p q r s : Int} (hd : p * s - q * r = 1) : IFf D (actF f p q r s) := by
  refine ⟨?_, F.d0, F.d1, F.ns⟩
  show dsc (fA f.1 f.2.1 f.2.2 p r) (fB f.1 f.2.1 f.2.2 p q r s) (fA f.1 f.2.1 f.2.2 q s) = D
  rw [dsc_act, hd, F.d]
  omega
theorem IFf.sum {D : Int} {f : Fm} (F : IFf D f) : f.1 + f.2.1 + f.2.2 ≠ 0 := by
  intro h
  have e := F.d
  unfold dsc at e
  refine not_sq F.d0 F.ns (f.1 - f.2.2) ?_
  rw [← e, show f.2.1 = -f.1 - f.2.2 by omega]
  grind
theorem sq_lt {x r D : Int} (x0 : 0 ≤ x) (h : x ≤ r) (h1 : r * r < D) : x * x < D := by
  have := Int.mul_le_mul h h x0 (by omega)
  omega
theorem sq_gt {x r D : Int} (r0 : 0 ≤ r) (h : r + 1 ≤ x) (h1 : D < (r + 1) * (r + 1)) : D < x * x := by
  have := Int.mul_le_mul h h (by omega) (by omega)
  omega
theorem root_le {x r D : Int} (r0 : 0 ≤ r) (h1 : D < (r + 1) * (r + 1)) (h : x * x < D) : x ≤ r := by
  by_cases z : x ≤ r
  · exact z
  · have := Int.mul_le_mul (show r + 1 ≤ x by omega) (show r + 1 ≤ x by omega) (by omega) (by omega)
    omega
theorem root_gt {x r D : Int} (x0 : 0 ≤ x) (h1 : r * r < D) (h : D < x * x) : r < x := by
  by_cases z : r < x
  · exact z
  · have := Int.mul_le_mul (show x ≤ r by omega) (show x ≤ r by omega) x0 (by omega)
    omega
/-- reduced forms, without a root -/
theorem red_iff {D : Int} {f : Fm} (F : IFf D f) : RDf D f ↔ rdF f := by
  obtain ⟨a, b, c⟩ := f
  obtain ⟨r0, r1, r2, r3⟩ := F.root
  have e := F.d
  have a0 := F.a0
  have c0 := F.c0
  unfold RDf rdF RedI
  dsimp only [IFf] at *
  unfold dsc at e
  generalize rootI D = r at *
  have e2 : b * b - 4 * (a * c) = D := by rw [← e]; grind
  constructor
  · rintro ⟨h1, h2, h3, h4⟩
    have bb := sq_lt (by omega) h2 r2
    have ac : a * c < 0 := by omega
    refine ⟨ac, ?_⟩
    -- (2|a| - b)^2 < D < (2|a| + b)^2
    have hA : (a.natAbs : Int) * (a.natAbs : Int) = a * a := sq_abs a
    have u2 : D < (2 * (a.natAbs : Int) + b) * (2 * (a.natAbs : Int) + b) := sq_gt r0 (by omega) r3
    have u1 : (2 * (a.natAbs : Int) - b) * (2 * (a.natAbs : Int) - b) < D := by
      rcases Int.le_total 0 (2 * (a.natAbs : Int) - b) with k | k
      · exact sq_lt k h3 r2
      · have := sq_lt (x := b - 2 * (a.natAbs : Int)) (by omega) (by omega) r2
        have e3 : (2 * (a.natAbs : Int) - b) * (2 * (a.natAbs : Int) - b) = (b - 2 * (a.natAbs : Int)) * (b - 2 * (a.natAbs : Int)) := by grind
        omega
    have v1 : (2 * (a.natAbs : Int) - b) * (2 * (a.natAbs : Int) - b) = 4 * ((a.natAbs : Int) * ((a.natAbs : Int) - b)) + b * b := by grind
    have v2 : (2 * (a.natAbs : Int) + b) * (2 * (a.natAbs : Int) + b) = 4 * ((a.natAbs : Int) * ((a.natAbs : Int) + b)) + b * b := by grind
    have w : a * c = -((a.natAbs : Int) * (c.natAbs : Int)) := by
      have : ((a * c).natAbs : Int) = (a.natAbs : Int) * (c.natAbs : Int) := by rw [Int.natAbs_mul]; rfl
      omega
    have A0 : 0 < (a.natAbs : Int) := by omega
    have x1 : (a.natAbs : Int) - b < (c.natAbs : Int) := Int.lt_of_mul_lt_mul_left (a := (a.natAbs : Int)) (by omega) (by omega)
    have x2 : (c.natAbs : Int) < (a.natAbs : Int) + b := Int.lt_of_mul_lt_mul_left (a := (a.natAbs : Int)) (by omega) (by omega)
    rcases Int.lt_or_gt_of_ne a0 with k | k
    · have hc : 0 < c := by
        rcases Int.lt_or_gt_of_ne c0 with l | l
        · have := Int.mul_pos_of_neg_of_neg k l
          omega
        · exact l
      omega
    · have hc : c < 0 := by
        rcases Int.lt_or_gt_of_ne c0 with l | l
        · exact l
        · have := Int.mul_pos k l
          omega
      omega
  · rintro ⟨ac, h1, h2⟩
    have w : a * c = -((a.natAbs : Int) * (c.natAbs : Int)) := by
      have : ((a * c).natAbs : Int) = (a.natAbs : Int) * (c.natAbs : Int) := by rw [Int.natAbs_mul]; rfl
      omega
    have hs : (0 < a ∧ c < 0) ∨ (a < 0 ∧ 0 < c) := by
      rcases Int.lt_or_gt_of_ne a0 with k | k
      · rcases Int.lt_or_gt_of_ne c0 with l | l
        · have := Int.mul_pos_of_neg_of_neg k l
          omega
        · exact .inr ⟨k, l⟩
      · rcases Int.lt_or_gt_of_ne c0 with l | l
        · exact .inl ⟨k, l⟩
        · have := Int.mul_pos k l
          omega
    have x1 : (a.natAbs : Int) - b < (c.natAbs : Int) := by omega
    have x2 : (c.natAbs : Int) < (a.natAbs : Int) + b := by omega
    have b0 : 0 < b := by omega
    have A0 : 0 < (a.natAbs : Int) := by omega
    have y1 := Int.mul_lt_mul_of_pos_left x1 A0
    have y2 := Int.mul_lt_mul_of_pos_left x2 A0
    have v1 : (2 * (a.natAbs : Int) - b) * (2 * (a.natAbs : Int) - b) = 4 * ((a.natAbs : Int) * ((a.natAbs : Int) - b)) + b * b := by grind
    have v2 : (2 * (a.natAbs : Int) + b) * (2 * (a.natAbs : Int) + b) = 4 * ((a.natAbs : Int) * ((a.natAbs : Int) + b)) + b * b := by grind
    refine ⟨b0, root_le r0 r3 (by omega), ?_, root_gt (by omega) r2 (by omega)⟩
    exact root_le r0 r3 (by omega)
def rho (D : Int) (f : Fm) : Fm := actF f 0 (-1) 1 (nN D f.2.1 f.2.2)
def rhoN (D : Int) : Nat → Fm → Fm
  | 0, f => f
  | k + 1, f => rhoN D k (rho D f)
theorem rhoN_add (D : Int) : ∀ (j k : Nat) (f : Fm), rhoN D (j + k) f = rhoN D k (rhoN D j f)
  | 0, k, f => by rw [Nat.zero_add]; rfl
  | j + 1, k, f => by
    rw [show j + 1 + k = (j + k) + 1 by omega]
    exact rhoN_add D j k (rho D f)
theorem rho_eq {D : Int} {f : Fm} (F : IFf D f) : rho D f = (f.2.2, bN D f.2.1 f.2.2, f.1 - f.2.1 * nN D f.2.1 f.2.2 + f.2.2 * nN D f.2.1 f.2.2 * nN D f.2.1 f.2.2) := by
  obtain ⟨v1, v2, v3⟩ := bN_spec (D := D) (b := f.2.1) F.c0
  unfold rho actF
  refine fm_ext ?_ ?_ ?_
  · dsimp only
    unfold fA
    grind
  · dsimp only
    rw [← v3]
    unfold fB
    grind
  · dsimp only
    unfold fA
    grind
theorem rho_if {D : Int} {f : Fm} (F : IFf D f) : IFf D (rho D f) := F.act (by omega)
theorem rho_red {D : Int} {f : Fm} (F : IFf D f) (R : RDf D f) : RDf D (rho D f) := by
  rw [rho_eq F]
  exact F.nb R
theorem rho_only {D : Int} {f : Fm} {n : Int} (F : IFf D f) (h : rdF (actF f 0 (-1) 1 n)) : actF f 0 (-1) 1 n = rho D f := by
  have h2 := (red_iff (F.act (p := 0) (q := -1) (r := 1) (s := n) (by omega))).mpr h
  by_cases z : n = nN D f.2.1 f.2.2
  · rw [z]
    rfl
  · refine absurd ?_ (F.only z)
    have e1 : (actF f 0 (-1) 1 n).1 = f.2.2 := by unfold actF fA; grind
    have e2 : (actF f 0 (-1) 1 n).2.1 = -f.2.1 + 2 * f.2.2 * n := by unfold actF fB; grind
    unfold RDf at h2
    rw [e1, e2] at h2
    exact h2
theorem nxR_neg {f : Fm} (h : f.1 + f.2.1 + f.2.2 < 0) : nxR f = actF f 1 1 0 1 := by
  rw [actF_R]
  unfold nxR
  rw [if_pos h]
theorem nxR_pos {f : Fm} (h : ¬ f.1 + f.2.1 + f.2.2 < 0) : nxR f = actF f 1 0 1 1 := by
  rw [actF_L]
  unfold nxR
  rw [if_neg h]
def PhL (D : Int) (k : Nat) : Prop := ∀ (F X : Fm) (j : Int), IFf D F → X = actF F 1 0 j 1 → 0 < X.1 → X.2.2 < 0 → 0 < X.1 - X.2.1 + X.2.2 → rdF (nxN k X) → ∃ m, rhoN D m F = nxN k X
def PhR (D : Int) (k : Nat) : Prop := ∀ (F F0 X : Fm) (j : Int), IFf D F → actF F0 0 (-1) 1 0 = rho D F → X = actF F0 1 j 0 1 → 0 < X.1 → X.2.2 < 0 → X.1 - X.2.1 + X.2.2 < 0 → rdF (nxN k X) → ∃ m, rhoN D m F = nxN k X
theorem ph_two {D : Int} {F F0 X : Fm} {j : Int} (hF : IFf D F) (h0 : actF F0 0 (-1) 1 0 = rho D F) (hX : X = actF F0 1 j 0 1) (hr : rdF X) : rho D (rho D F) = X := by
  have e : actF (rho D F) 0 (-1) 1 j = X := by
    rw [← h0, actF_mul, hX, ← actF_neg F0 1 j 0 1]
    congr 1 <;> omega
  rw [← e] at hr ⊢
  exact (rho_only (rho_if hF) hr).symm
theorem ph_all (D : Int) : ∀ k, PhL D k ∧ PhR D k := by
  intro k
  induction k with
  | zero =>
    constructor
    · intro F X j hF hX x1 x2 x3 hr
      have := hr.2.2
      show ∃ m, rhoN D m F = X
      have : X.1 - X.2.1 + X.2.2 < 0 := hr.2.2
      omega
    · intro F F0 X j hF h0 hX x1 x2 x3 hr
      exact ⟨2, ph_two hF h0 hX hr⟩
  | succ k ih =>
    obtain ⟨ihL, ihR⟩ := ih
    have goL : ∀ (F X : Fm) (j : Int), IFf D F → X = actF F 1 0 j 1 → 0 < X.1 → X.2.2 < 0 → 0 < X.1 + X.2.1 + X.2.2 → rdF (nxN (k + 1) X) → ∃ m, rhoN D m F = nxN (k + 1) X := by
      intro F X j hF hX x1 x2 hs hr
      have en : nxN (k + 1) X = nxN k (actF X 1 0 1 1) := by
        show nxN k (nxR X) = _
        rw [nxR_pos (by omega)]
      rw [en] at hr ⊢
      have e2 : actF X 1 0 1 1 = actF F 1 0 (j + 1) 1 := by
        rw [hX, actF_mul]
        congr 1 <;> omega
      have e3 := actF_L X
      refine ihL F _ (j + 1) hF e2 ?_ ?_ ?_ hr
      · rw [e3]; exact hs
      · rw [e3]; exact x2
      · rw [e3]; dsimp only; omega
    constructor
    · intro F X j hF hX x1 x2 x3 hr
      have hXF : IFf D X := by rw [hX]; exact hF.act (by omega)
      by_cases hs : X.1 + X.2.1 + X.2.2 < 0
      · have en : nxN (k + 1) X = nxN k (actF X 1 1 0 1) := by
          show nxN k (nxR X) = _
          rw [nxR_neg hs]
        rw [en] at hr ⊢
        have e3 := actF_R X
        have eS : actF X 0 (-1) 1 0 = (X.2.2, -X.2.1, X.1) := by
          unfold actF
          refine fm_ext ?_ ?_ ?_ <;> (dsimp only; (try unfold fA); (try unfold fB); grind)
        have eJ : actF X 0 (-1) 1 0 = actF F 0 (-1) 1 (-j) := by
          rw [hX, actF_mul]
          congr 1 <;> omega
        have hrd : rdF (actF F 0 (-1) 1 (-j)) := by
          rw [← eJ, eS]
          refine ⟨?_, ?_, ?_⟩
          · exact Int.mul_neg_of_neg_of_pos x2 x1
          · show 0 < X.2.2 + -X.2.1 + X.1
            omega
          · show X.2.2 - -X.2.1 + X.1 < 0
            omega
        refine ihR F X _ 1 hF (eJ.trans (rho_only hF hrd)) rfl ?_ ?_ ?_ hr
        · rw [e3]; exact x1
        · rw [e3]; exact hs
        · rw [e3]; dsimp only; omega
      · have := hXF.sum
        exact goL F X j hF hX x1 x2 (by omega) hr
    · intro F F0 X j hF h0 hX x1 x2 x3 hr
      by_cases hs : X.1 + X.2.1 + X.2.2 < 0
      · have en : nxN (k + 1) X = nxN k (actF X 1 1 0 1) := by
          show nxN k (nxR X) = _
          rw [nxR_neg hs]
        rw [en] at hr ⊢
        have e3 := actF_R X
        have e2 : actF X 1 1 0 1 = actF F0 1 (j + 1) 0 1 := by
          rw [hX, actF_mul]
          congr 1 <;> omega
        refine ihR F F0 _ (j + 1) hF h0 e2 ?_ ?_ ?_ hr
        · rw [e3]; exact x1
        · rw [e3]; exact hs
        · rw [e3]; dsimp only; omega
      · have hF2 : IFf D (rho D (rho D F)) := rho_if (rho_if hF)
        have hsum : 0 < X.1 + X.2.1 + X.2.2 := by
          have hX0 : IFf D X := by
            have e : actF (rho D F) 0 (-1) 1 j = X := by
              rw [← h0, actF_mul, hX, ← actF_neg F0 1 j 0 1]
              congr 1 <;> omega
            rw [← e]
            exact (rho_if hF).act (by omega)
          have := hX0.sum
          omega
        have hrX : rdF X := ⟨Int.mul_neg_of_pos_of_neg x1 x2, hsum, x3⟩
        have e2 := ph_two hF h0 hX hrX
        rw [e2] at hF2
        obtain ⟨m, hm⟩ := goL X X 0 hF2 (actF_one X).symm x1 x2 hsum hr
        exact ⟨m + 2, by rw [Nat.add_comm, rhoN_add]; show rhoN D m (rho D (rho D F)) = _; rw [e2]; exact hm⟩
/-- reduced forms with a > 0 that stand on one river are in one cycle -/
theorem rv_cycle {D : Int} {F : Fm} {k : Nat} (hF : IFf D F) (ha : 0 < F.1) (hr : rdF F) (hg : rdF (nxN k F)) : ∃ m, rhoN D m F = nxN k F := by
  have hc : F.2.2 < 0 := by
    have := hr.1
    rcases Int.lt_or_le F.2.2 0 with l | l
    · exact l
    · have := Int.mul_nonneg (Int.le_of_lt ha) l
      omega
  cases k with
  | zero => exact ⟨0, rfl⟩
  | succ k =>
    have hs := hr.2.1
    have en : nxN (k + 1) F = nxN k (actF F 1 0 1 1) := by
      show nxN k (nxR F) = _
      rw [nxR_pos (by omega)]
    rw [en] at hg ⊢
    have e3 := actF_L F
    refine (ph_all D k).1 F _ 1 hF rfl ?_ ?_ ?_ hg
    · rw [e3]; exact hs
    · rw [e3]; exact hc
    · rw [e3]; dsimp only; omega

/-! ### it comes round -/
theorem IFf.mir {D : Int} {f : Fm} (F : IFf D f) : IFf D (f.2.2, f.2.1, f.1) := by
  refine ⟨?_, F.d0, F.d1, F.ns⟩
  have e := F.d
  unfold dsc at e ⊢
  dsimp only
  rw [← e]
  grind
theorem red_sym {D : Int} {f : Fm} (F : IFf D f) (R : RDf D f) : RedI D f.2.2 f.2.1 := by
  have h := (red_iff F).mp R
  have h2 : rdF (f.2.2, f.2.1, f.1) := by
    refine ⟨?_, ?_, ?_⟩
    · show f.2.2 * f.1 < 0
      rw [Int.mul_comm]
      exact h.1
    · show 0 < f.2.2 + f.2.1 + f.1
      have := h.2.1
      omega
    · show f.2.2 - f.2.1 + f.1 < 0
      have := h.2.2
      omega
  exact (red_iff F.mir).mpr h2
theorem rho_inj {D : Int} {f g : Fm} (F : IFf D f) (G : IFf D g) (Rf : RDf D f) (Rg : RDf D g) (h : rho D f = rho D g) : f = g := by
  rw [rho_eq F, rho_eq G] at h
  have h1 : f.2.2 = g.2.2 := congrArg (fun t : Fm => t.1) h
  have h2 : bN D f.2.1 f.2.2 = bN D g.2.1 g.2.2 := congrArg (fun t : Fm => t.2.1) h
  obtain ⟨_, _, v3⟩ := bN_spec (D := D) (b := f.2.1) F.c0
  obtain ⟨_, _, w3⟩ := bN_spec (D := D) (b := g.2.1) G.c0
  obtain ⟨p1, p2, p3, p4⟩ := red_sym F Rf
  obtain ⟨q1, q2, q3, q4⟩ := red_sym G Rg
  have c0 := F.c0
  rw [← h2, ← h1] at w3
  rw [← h1] at q3 q4
  have hb : f.2.1 = g.2.1 := by
    have e : f.2.1 - g.2.1 = 2 * (f.2.2 * (nN D f.2.1 f.2.2 - nN D g.2.1 f.2.2)) := by
      have : 2 * f.2.2 * nN D f.2.1 f.2.2 - 2 * f.2.2 * nN D g.2.1 f.2.2 = 2 * (f.2.2 * (nN D f.2.1 f.2.2 - nN D g.2.1 f.2.2)) := by grind
      omega
    by_cases z : nN D f.2.1 f.2.2 - nN D g.2.1 f.2.2 = 0
    · rw [z, Int.mul_zero] at e
      omega
    · have e2 : ((f.2.2 * (nN D f.2.1 f.2.2 - nN D g.2.1 f.2.2)).natAbs : Int) = (f.2.2.natAbs : Int) * ((nN D f.2.1 f.2.2 - nN D g.2.1 f.2.2).natAbs : Int) := by
        rw [Int.natAbs_mul]
        rfl
      have t := Int.mul_le_mul_of_nonneg_left (show 1 ≤ ((nN D f.2.1 f.2.2 - nN D g.2.1 f.2.2).natAbs : Int) by omega) (show 0 ≤ (f.2.2.natAbs : Int) by omega)
      omega
  refine fm_ext ?_ hb h1
  have e1 := F.d
  have e2 := G.d
  unfold dsc at e1 e2
  rw [← hb, ← h1, ← e1] at e2
  have e3 : f.2.2 * (4 * (f.1 - g.1)) = 0 := by grind
  have := (Int.mul_eq_zero.mp e3).resolve_left c0
  omega
theorem rhoN_ok {D : Int} : ∀ (k : Nat) {f : Fm}, IFf D f → RDf D f → IFf D (rhoN D k f) ∧ RDf D (rhoN D k f)
  | 0, _, F, R => ⟨F, R⟩
  | k + 1, _, F, R => rhoN_ok k (rho_if F) (rho_red F R)
theorem rhoN_inj {D : Int} : ∀ (k : Nat) {f g : Fm}, IFf D f → RDf D f → IFf D g → RDf D g → rhoN D k f = rhoN D k g → f = g
  | 0, _, _, _, _, _, _, h => h
  | k + 1, _, _, F, R, G, S, h => rho_inj F G R S (rhoN_inj k (rho_if F) (rho_red F R) (rho_if G) (rho_red G S) h)
theorem nodup_sub_len {α : Type} [DecidableEq α] : ∀ {l m : List α}, l.Nodup → (∀ x ∈ l, x ∈ m) → l.length ≤ m.length
  | [], _, _, _ => Nat.zero_le _
  | a :: l, m, h, hs => by
    obtain ⟨h1, h2⟩ := List.nodup_cons.mp h
    have ha := hs a List.mem_cons_self
    have := nodup_sub_len (l := l) (m := m.erase a) h2 (fun x hx => by
      refine (List.mem_erase_of_ne ?_).mpr (hs x (List.mem_cons_of_mem _ hx))
      rintro rfl
      exact h1 hx)
    rw [List.length_erase_of_mem ha] at this
    have := List.length_pos_of_mem ha
    rw [List.length_cons]
    omega
/-- a row of N + 1 that lie in a box of N has two alike -/
theorem two_alike {α : Type} [DecidableEq α] (u : Nat → α) (box : List α) (N : Nat) (hb : ∀ i, i ≤ N → u i ∈ box) (hN : box.length ≤ N) : ∃ i j, i < j ∧ j ≤ N ∧ u i = u j := by
  by_cases z : ∃ i j, i < j ∧ j ≤ N ∧ u i = u j
  · exact z
  · exfalso
    have hnd : ((List.range (N + 1)).map u).Nodup := by
      refine List.pairwise_map.mpr ((List.pairwise_lt_range (n := N + 1)).imp_of_mem ?_)
      intro a b ha hb hlt e
      have := List.mem_range.mp hb
      exact z ⟨a, b, hlt, by omega, e⟩
    have := nodup_sub_len hnd (m := box) (fun x hx => by
      obtain ⟨i, hi, rfl⟩ := List.mem_map.mp hx
      have := List.mem_range.mp hi
      exact hb i (by omega))
    rw [List.length_map, List.length_range] at this
    omega
/-- a cycle's length: the first return -/
structure Cyc (D : Int) (f : Fm) (n : Nat) : Prop where
  n0 : 0 < n
  back : rhoN D n f = f
  first : ∀ k, 0 < k → k < n → rhoN D k f ≠ f
theorem cyc_of {D : Int} {f : Fm} (F : IFf D f) (R : RDf D f) {box : List Fm} (hb : ∀ i, rhoN D i f ∈ box) : ∃ n, Cyc D f n ∧ n ≤ box.length := by
  obtain ⟨i, j, hij, hj, e⟩ := two_alike (fun i => rhoN D i f) box box.length (fun i _ => hb i) (Nat.le_refl _)
  have e2 : rhoN D (j - i) f = f := by
    have h1 : rhoN D i (rhoN D (j - i) f) = rhoN D i f := by
      rw [← rhoN_add, show j - i + i = j by omega]
      exact e.symm
    exact rhoN_inj i (rhoN_ok (j - i) F R).1 (rhoN_ok (j - i) F R).2 F R h1
  -- the least one
  have least : ∀ m, 0 < m → rhoN D m f = f → ∃ n, Cyc D f n ∧ n ≤ m := by
    intro m
    induction m using Nat.strongRecOn with
    | _ m ih =>
      intro m0 hm
      by_cases z : ∃ k, 0 < k ∧ k < m ∧ rhoN D k f = f
      · obtain ⟨k, k0, km, hk⟩ := z
        obtain ⟨n, hn, hl⟩ := ih k km k0 hk
        exact ⟨n, hn, by omega⟩
      · exact ⟨m, ⟨m0, hm, fun k k0 km hk => z ⟨k, k0, km, hk⟩⟩, Nat.le_refl _⟩
  obtain ⟨n, hn, hl⟩ := least (j - i) (by omega) e2
  exact ⟨n, hn, by omega⟩
theorem rhoN_mul {D : Int} {f : Fm} {n : Nat} (h : rhoN D n f = f) : ∀ k, rhoN D (n * k) f = f
  | 0 => rfl
  | k + 1 => by rw [Nat.mul_succ, Nat.add_comm, rhoN_add, h, rhoN_mul h k]
theorem rhoN_back {D : Int} {f g : Fm} {n k : Nat} (n0 : 0 < n) (h : rhoN D n f = f) (e : rhoN D k f = g) : ∃ m, rhoN D m g = f := by
  refine ⟨n * (k + 1) - k, ?_⟩
  rw [← e, ← rhoN_add]
  have hle : k ≤ n * (k + 1) := by
    have := Nat.mul_le_mul_right (k + 1) n0
    omega
  rw [show k + (n * (k + 1) - k) = n * (k + 1) by omega]
  exact rhoN_mul h (k + 1)
/-- reduced forms of one class are in one cycle -/
theorem class_cycle {D : Int} {F G : Fm} {p q r s : Int} (per : ∀ f, IFf D f → RDf D f → ∃ n, 0 < n ∧ rhoN D n f = f) (hF : IFf D F) (hG : IFf D G) (rF : RDf D F) (rG : RDf D G) (hd : p * s - q * r = 1) (e : G = actF F p q r s) : ∃ m, rhoN D m F = G := by
  have pos : ∀ (F G : Fm) (p q r s : Int), IFf D F → IFf D G → RDf D F → RDf D G → p * s - q * r = 1 → G = actF F p q r s → 0 < F.1 → 0 < G.1 → ∃ m, rhoN D m F = G := by
    intro F G p q r s hF hG rF rG hd e aF aG
    have dF := (red_iff hF).mp rF
    have dG := (red_iff hG).mp rG
    have cneg : ∀ f : Fm, 0 < f.1 → rdF f → f.2.2 < 0 := by
      intro f ha h
      rcases Int.lt_or_le f.2.2 0 with l | l
      · exact l
      · have := Int.mul_nonneg (Int.le_of_lt ha) l
        have := h.1
        omega
    rcases rv_one hd (f := F) ⟨aF, cneg F aF dF⟩ (by rw [← e]; exact ⟨aG, cneg G aG dG⟩) with ⟨k, hk⟩ | ⟨k, hk⟩
    · rw [← e] at hk
      obtain ⟨m, hm⟩ := rv_cycle hF aF dF (k := k) (by rw [hk]; exact dG)
      exact ⟨m, hm.trans hk⟩
    · rw [← e] at hk
      obtain ⟨m, hm⟩ := rv_cycle hG aG dG (k := k) (by rw [hk]; exact dF)
      obtain ⟨n, n0, hn⟩ := per G hG rG
      exact rhoN_back n0 hn (hm.trans hk)
  have flip : ∀ f : Fm, IFf D f → RDf D f → ¬ 0 < f.1 → 0 < (rho D f).1 := by
    intro f hf rf h
    rw [rho_eq hf]
    show 0 < f.2.2
    have h1 := ((red_iff hf).mp rf).1
    have a0 := hf.a0
    rcases Int.lt_or_le 0 f.2.2 with l | l
    · exact l
    · have := Int.mul_nonneg_of_nonpos_of_nonpos (show f.1 ≤ 0 by omega) l
      omega
  -- behind one step where a is below 0
  have half : ∀ (F : Fm) (p q r s : Int), IFf D F → RDf D F → p * s - q * r = 1 → G = actF F p q r s → 0 < F.1 → ∃ m, rhoN D m F = G := by
    intro F p q r s hF rF hd e aF
    by_cases aG : 0 < G.1
    · exact pos F G p q r s hF hG rF rG hd e aF aG
    · have key : ∀ n, actF G 0 (-1) 1 n = actF F (p * 0 + q * 1) (p * -1 + q * n) (r * 0 + s * 1) (r * -1 + s * n) := fun n => by
        rw [e, actF_mul]
      obtain ⟨m, hm⟩ := pos F (rho D G) _ _ _ _ hF (rho_if hG) rF (rho_red hG rG) (by rw [← hd]; grind) (key (nN D G.2.1 G.2.2)) aF (flip G hG rG aG)
      obtain ⟨n, n0, hn⟩ := per G hG rG
      obtain ⟨t, ht⟩ := rhoN_back (k := 1) n0 hn rfl
      exact ⟨m + t, by rw [rhoN_add, hm]; exact ht⟩
  by_cases aF : 0 < F.1
  · exact half F p q r s hF rF hd e aF
  · have eF := actF_inv F (p := 0) (q := -1) (r := 1) (s := nN D F.2.1 F.2.2) (by omega)
    have e2 : G = actF (rho D F) (nN D F.2.1 F.2.2 * p + - -1 * r) (nN D F.2.1 F.2.2 * q + - -1 * s) (-1 * p + 0 * r) (-1 * q + 0 * s) := by
      rw [e]
      conv => lhs; rw [← eF]
      rw [actF_mul]
      rfl
    obtain ⟨m, hm⟩ := half (rho D F) _ _ _ _ (rho_if hF) (rho_red hF rF) (by rw [← hd]; grind) e2 (flip F hF rF aF)
    exact ⟨m + 1, hm⟩

/-! ### min of a list of data -/
def rMinD (K : PySem.W.Frag) (α : Type) [DecidableEq α] [PySem.W.DatumOrd α] : List V → Hp → VK → Prop := fun vs H Q => ∃ (a : Addr) (ys : List V) (x : α) (xs : List α), vs = [V.ref a] ∧ SqL K H a ys ∧ DpAll K H ys ((x :: xs).map PySem.W.Datum.toD) ∧
  ∀ (i : Nat) (y : V), ys[i]? = some y → (x :: xs)[i]? = some (PySem.W.minOf x xs) → Q y H
theorem cr_minD {X : Cx} {α : Type} [DecidableEq α] [PySem.W.DatumOrd α] (hc : X.calm = true) (hu : X.A.units + 1 + PySem.W.Datum.depth α < cLine) : CallR X (.builtin "min") (rMinD X.K α) := by
  intro pins s σ H vs us Q I r h
  obtain ⟨a, ys, x, xs, rfl, hs, hd, q⟩ := h
  obtain ⟨its, rv, hl, _⟩ := I.list hs
  rw [Vals.ref1 r]
  obtain ⟨as, ra⟩ := Dp.readsAll I _ _ its hd rv
  refine PySem.W.min_list_data (vs := its.toArray) (I.ok.hd hc) hl.isList ra (PySem.W.alikeAll_datum (x :: xs)) (PySem.W.room_all (PySem.W.depthAll_map (x :: xs)) hu) fun i v h' tk bs hi rr hk => ?_
  have hi2 : its[i]? = some v := by simpa using hi
  obtain ⟨cs, r1, hlt, _, _⟩ := PySem.W.readsAll_at (vs := its) ra i v hi2
  have hl2 : i < (x :: xs).length := by simpa using hlt
  have e1 : ((x :: xs).map PySem.W.Datum.toD).getD i .none = PySem.W.Datum.toD ((x :: xs)[i]) := by
    rw [List.getD_eq_getElem?_getD, List.getElem?_map, List.getElem?_eq_getElem hl2]
    rfl
  rw [e1] at r1
  have e2 := (PyProof.Rows.reads_det (fun b o e _ => hk b o e) r1 rr).1
  rw [show (PySem.W.minD (PySem.W.Datum.toD x) (xs.map PySem.W.Datum.toD)) = PySem.W.Datum.toD (PySem.W.minOf x xs) from PySem.W.minD_map x xs] at e2
  have e3 : (x :: xs)[i] = PySem.W.minOf x xs := by
    have h1 := PySem.W.Datum.eqv ((x :: xs)[i]) (PySem.W.minOf x xs)
    rw [← e2, PySem.W.Datum.eqv] at h1
    simpa using h1
  have hlen := rv.length
  have hi3 : i < its.length := (List.getElem?_eq_some_iff.mp hi2).1
  have hy : ys[i]? = some (ys[i]'(by omega)) := List.getElem?_eq_getElem (by omega)
  obtain ⟨u, hu1, hu2⟩ := rv.get hy
  rw [hi2] at hu1
  cases hu1
  exact ⟨_, H, I.kept hk, hu2, q i _ hy (by rw [List.getElem?_eq_getElem hl2, e3])⟩
theorem minDQ {X : Cx} (K : PySem.W.Frag) (α : Type) [DecidableEq α] [PySem.W.DatumOrd α] (hc : X.calm = true) (hu : X.A.units + 65 < cLine) (hd : PySem.W.Datum.depth α ≤ 64 := by decide) (h : X.K = K := by rfl) : CallR X (.builtin "min") (rMinD K α) := by
  subst h
  exact cr_minD hc (by omega)
section
variable {α β : Type} [DecidableEq α] [PySem.W.DatumOrd α] [DecidableEq β] [PySem.W.DatumOrd β]
theorem ord_irr (a : α) : PySem.W.DatumOrd.lt a a = false := by
  rw [← PySem.W.DatumOrd.lt_eq]
  exact PySem.W.dataLt_self _
theorem ord_trans {a b c : α} (h1 : PySem.W.DatumOrd.lt a b = true) (h2 : PySem.W.DatumOrd.lt b c = true) : PySem.W.DatumOrd.lt a c = true := by
  rw [← PySem.W.DatumOrd.lt_eq] at *
  exact PyProof.Rows.lex_trans _ _ _ h1 h2
theorem min_fst : ∀ (xs : List (α × β)) (x : α × β), (PySem.W.minOf x xs).1 = PySem.W.minOf x.1 (xs.map (·.1))
  | [], x => rfl
  | y :: ys, x => by
    have h := min_fst ys
    unfold PySem.W.minOf at *
    rw [List.map_cons, List.foldl_cons, List.foldl_cons, h]
    congr 1
    show (if (if y.1 = x.1 then PySem.W.DatumOrd.lt y.2 x.2 else PySem.W.DatumOrd.lt y.1 x.1) = true then y else x).1 = _
    by_cases e : y.1 = x.1
    · rw [if_pos e, e, ite_self]
      split
      · exact e
      · rfl
    · rw [if_neg e]
      split <;> rfl
theorem min_spec : ∀ (xs : List α) (x : α), PySem.W.minOf x xs ∈ x :: xs ∧ ∀ y ∈ x :: xs, PySem.W.DatumOrd.lt y (PySem.W.minOf x xs) = false
  | [], x => ⟨List.mem_cons_self, fun y hy => by
      cases List.mem_singleton.mp hy
      exact ord_irr _⟩
  | z :: zs, x => by
    have e : PySem.W.minOf x (z :: zs) = PySem.W.minOf (if PySem.W.DatumOrd.lt z x = true then z else x) zs := rfl
    by_cases c : PySem.W.DatumOrd.lt z x = true
    · rw [if_pos c] at e
      obtain ⟨h1, h2⟩ := min_spec zs z
      rw [e]
      refine ⟨List.mem_cons_of_mem _ h1, fun y hy => ?_⟩
      rcases List.mem_cons.mp hy with rfl | hy
      · cases k : PySem.W.DatumOrd.lt y (PySem.W.minOf z zs)
        · rfl
        · have := h2 z List.mem_cons_self
          rw [ord_trans c k] at this
          exact this
      · exact h2 y hy
    · rw [if_neg c] at e
      obtain ⟨h1, h2⟩ := min_spec zs x
      rw [e]
      refine ⟨?_, fun y hy => ?_⟩
      · rcases List.mem_cons.mp h1 with h | h
        · rw [h]
          exact List.mem_cons_self
        · exact List.mem_cons_of_mem _ (List.mem_cons_of_mem _ h)
      · rcases List.mem_cons.mp hy with rfl | hy
        · exact h2 _ List.mem_cons_self
        · rcases List.mem_cons.mp hy with rfl | hy
          · cases k : PySem.W.DatumOrd.lt y (PySem.W.minOf x zs)
            · rfl
            · exfalso
              -- y < min, x not above it: min is x or one of zs
              have hx := h2 x List.mem_cons_self
              have c2 : PySem.W.DatumOrd.lt y x = false := by
                cases q : PySem.W.DatumOrd.lt y x
                · rfl
                · exact absurd q c
              rw [← PySem.W.DatumOrd.lt_eq] at k hx c2
              rcases (PyProof.Rows.lex_negTrans (O := PyProof.Rows.itemOrd) _ (PySem.W.keyToks (PySem.W.Datum.toD x)) _ k : _ ∨ _) with t | t
              · exact absurd (show PySem.W.dataLt _ _ = true from t) (by rw [c2]; decide)
              · exact absurd (show PySem.W.dataLt _ _ = true from t) (by rw [hx]; decide)
          · exact h2 y (List.mem_cons_of_mem _ hy)
end
theorem ints_total : ∀ a b : List Int, PySem.W.listLt a b = false → PySem.W.listLt b a = false → a = b
  | [], [], _, _ => rfl
  | [], _ :: _, h, _ => by exact absurd h (by unfold PySem.W.listLt; decide)
  | _ :: _, [], _, h => by exact absurd h (by unfold PySem.W.listLt; decide)
  | x :: xs, y :: ys, h1, h2 => by
    unfold PySem.W.listLt at h1 h2
    by_cases e : x = y
    · subst e
      rw [if_pos rfl] at h1 h2
      rw [ints_total xs ys h1 h2]
    · rw [if_neg e] at h1
      rw [if_neg (fun h => e h.symm)] at h2
      have k1 : ¬ x < y := of_decide_eq_false h1
      have k2 : ¬ y < x := of_decide_eq_false h2
      omega
/-- the least depends on what stands there alone -/
theorem min_alike {x y : PySem.W.Tup Int} {xs ys : List (PySem.W.Tup Int)} (h1 : ∀ z, z ∈ x :: xs → z ∈ y :: ys) (h2 : ∀ z, z ∈ y :: ys → z ∈ x :: xs) : PySem.W.minOf x xs = PySem.W.minOf y ys := by
  obtain ⟨a1, a2⟩ := min_spec xs x
  obtain ⟨b1, b2⟩ := min_spec ys y
  have k1 := a2 _ (h2 _ b1)
  have k2 := b2 _ (h1 _ a1)
  have e := ints_total _ _ k2 k1
  generalize PySem.W.minOf x xs = u at *
  generalize PySem.W.minOf y ys = v at *
  cases u
  cases v
  exact congrArg _ e

/-! ### lists of pairs of int tuples -/
def pD (p : List Int × List Int) : PyData := .tuple [tD p.1, tD p.2]
inductive Pps (K : PySem.W.Frag) (H : Hp) : List V → List (List Int × List Int) → Prop where
  | nil : Pps K H [] []
  | cons {a x y : Addr} {f m : List Int} {vs : List V} {ps : List (List Int × List Int)} : SqT K H a [.ref x, .ref y] → SqT K H x (f.map V.int) → SqT K H y (m.map V.int) → Pps K H vs ps → Pps K H (.ref a :: vs) ((f, m) :: ps)
theorem Pps.kt {K : PySem.W.Frag} {H H' : Hp} (s : KT K H H') : ∀ {vs : List V} {ts : List (List Int × List Int)}, Pps K H vs ts → Pps K H' vs ts
  | _, _, .nil => .nil
  | _, _, .cons h h1 h2 t => .cons (s _ _ h) (s _ _ h1) (s _ _ h2) (t.kt s)
theorem Pps.same {K : PySem.W.Frag} {H H' : Hp} {vs : List V} {ts : List (List Int × List Int)} (h : Pps K H vs ts) (s : Same H H') : Pps K H' vs ts := h.kt (same_kt s)
theorem Pps.len {K : PySem.W.Frag} {H : Hp} : ∀ {vs : List V} {ts : List (List Int × List Int)}, Pps K H vs ts → vs.length = ts.length
  | _, _, .nil => rfl
  | _, _, .cons _ _ _ t => by rw [List.length_cons, List.length_cons, t.len]
theorem Pps.app {K : PySem.W.Frag} {H : Hp} : ∀ {vs ws : List V} {ts us : List (List Int × List Int)}, Pps K H vs ts → Pps K H ws us → Pps K H (vs ++ ws) (ts ++ us)
  | _, _, _, _, .nil, h => h
  | _, _, _, _, .cons a b c t, h => .cons a b c (t.app h)
theorem Pps.snoc {K : PySem.W.Frag} {H : Hp} {vs : List V} {ts : List (List Int × List Int)} {a x y : Addr} {f m : List Int} (h : Pps K H vs ts) (s : SqT K H a [.ref x, .ref y]) (s1 : SqT K H x (f.map V.int)) (s2 : SqT K H y (m.map V.int)) : Pps K H (vs ++ [.ref a]) (ts ++ [(f, m)]) := h.app (.cons s s1 s2 .nil)
theorem Pps.at {K : PySem.W.Frag} {H : Hp} : ∀ {vs : List V} {ts : List (List Int × List Int)} {i : Nat} {x : V}, Pps K H vs ts → vs[i]? = some x → ∃ a u v f m, x = .ref a ∧ ts[i]? = some (f, m) ∧ SqT K H a [.ref u, .ref v] ∧ SqT K H u (f.map V.int) ∧ SqT K H v (m.map V.int)
  | _, _, _, _, .nil, h => by cases h
  | _, _, 0, _, .cons s s1 s2 t, h => by
    cases h
    exact ⟨_, _, _, _, _, rfl, rfl, s, s1, s2⟩
  | _, _, i + 1, _, .cons _ _ _ t, h => t.at (i := i) h
theorem Pps.dp {K : PySem.W.Frag} {H : Hp} : ∀ {vs : List V} {ts : List (List Int × List Int)}, Pps K H vs ts → DpAll K H vs (ts.map pD)
  | _, _, .nil => .nil
  | _, _, .cons h h1 h2 t => .cons (.tup h (.cons (.tup h1 (dp_ints _)) (.cons (.tup h2 (dp_ints _)) .nil))) t.dp
/-- the firsts of the pairs -/
theorem Pps.firsts {K : PySem.W.Frag} {H : Hp} : ∀ {vs : List V} {ts : List (List Int × List Int)}, Pps K H vs ts → ∃ zs : List V, Tps K H zs (ts.map (·.1)) ∧ ∀ (i : Nat) (v : V), vs[i]? = some v → ∃ a x y : Addr, v = V.ref a ∧ SqT K H a [.ref x, .ref y] ∧ zs[i]? = some (V.ref x)
  | _, _, .nil => ⟨[], .nil, fun i v h => by cases h⟩
  | _, _, .cons h h1 h2 t => by
    obtain ⟨zs, z1, z2⟩ := t.firsts
    refine ⟨_ :: zs, .cons h1 z1, fun i v hv => ?_⟩
    cases i with
    | zero =>
      cases hv
      exact ⟨_, _, _, rfl, h, rfl⟩
    | succ i => exact z2 i v hv
theorem lay_pps : ∀ ts : List (List Int × List Int), PyData.canLayAll0 (ts.map pD) = true
  | [] => rfl
  | t :: ts => by
    rw [List.map_cons, PyData.canLayAll0, lay_pps ts]
    unfold pD tD
    rw [PyData.canLay0, PyData.canLayAll0, PyData.canLayAll0, PyData.canLayAll0, PyData.canLay0, PyData.canLay0, lay_ints, lay_ints]
    rfl
theorem depth_pps : ∀ ts : List (List Int × List Int), PyData.depthAll (ts.map pD) ≤ 2
  | [] => by rw [List.map_nil, PyData.depthAll]; decide
  | t :: ts => by
    rw [List.map_cons, PyData.depthAll]
    unfold pD tD
    rw [PyData.depth, PyData.depthAll, PyData.depthAll, PyData.depthAll, PyData.depth, PyData.depth, depth_ints, depth_ints]
    exact Nat.max_le.mpr ⟨by decide, depth_pps ts⟩
theorem shaped_pps (ts : List (List Int × List Int)) : SeqAt.shaped (.list (ts.map pD)) = true := by
  show (PyData.canLay0 (.list (ts.map pD)) && decide (PyData.depth (.list (ts.map pD)) ≤ 64)) = true
  rw [Bool.and_eq_true]
  refine ⟨by rw [PyData.canLay0]; exact lay_pps ts, decide_eq_true ?_⟩
  rw [PyData.depth]
  have := depth_pps ts
  omega
theorem eqvAll_pps : ∀ ts us : List (List Int × List Int), PyData.eqvAll (ts.map pD) (us.map pD) = decide (ts = us)
  | [], [] => by simp [PyData.eqvAll]
  | [], _ :: _ => by simp [PyData.eqvAll]
  | _ :: _, [] => by simp [PyData.eqvAll]
  | t :: ts, u :: us => by
    rw [List.map_cons, List.map_cons, PyData.eqvAll, eqvAll_pps ts us]
    unfold pD tD
    rw [PyData.eqv, PyData.eqvAll, PyData.eqvAll, PyData.eqvAll, R.eqB, R.eqB]
    obtain ⟨t1, t2⟩ := t
    obtain ⟨u1, u2⟩ := u
    by_cases h : t1 = u1 <;> by_cases h2 : t2 = u2 <;> simp [h, h2]
namespace R
theorem eqPps {K : PySem.W.Frag} {H : Hp} {Q : VK} {p q : Addr} {vs ws : List V} {ts us : List (List Int × List Int)} (h1 : SqL K H p vs) (t1 : Pps K H vs ts) (h2 : SqL K H q ws) (t2 : Pps K H ws us) (h : Q (.bl (decide (ts = us))) H) : rEqD K (.ref p) (.ref q) H Q := by
  refine ⟨_, _, .lst h1 t1.dp, .lst h2 t2.dp, shaped_pps _, shaped_pps _, ?_⟩
  rw [PyData.eqv, eqvAll_pps]
  exact h
theorem nePps {K : PySem.W.Frag} {H : Hp} {Q : VK} {p q : Addr} {vs ws : List V} {ts us : List (List Int × List Int)} (h1 : SqL K H p vs) (t1 : Pps K H vs ts) (h2 : SqL K H q ws) (t2 : Pps K H ws us) (h : Q (.bl (!decide (ts = us))) H) : rNeD K (.ref p) (.ref q) H Q := by
  refine ⟨_, _, .lst h1 t1.dp, .lst h2 t2.dp, shaped_pps _, shaped_pps _, ?_⟩
  rw [PyData.eqv, eqvAll_pps]
  exact h
section
variable {K : PySem.W.Frag} {te : TE} {σ : L2.St} {H : Hp} {Q : VK}
/-- a comprehension over a list of any things whose results are known -/
theorem lcV {a : Addr} {ys zs : List V} {g : TG} {vs : List Nat} (hz : zs.length = ys.length) (hl : ys.length ≤ 100000) (hT : SqL K H a ys)
    (hs : ∀ (i : Nat) (y z : V) (H' : Hp) (Q' : VK), ys[i]? = some y → zs[i]? = some z → Same H H' → Q' z H' → g y (wipe σ vs) H' fun σ2 H2 => wipe σ2 vs = wipe σ vs ∧ te σ2 H2 Q')
    (hq : ∀ H' D, H' D = some (.lst zs) → Same H H' → H D = none → Q (.ref D) H') : LcJ (Itl K a) g tYes te vs σ H Q := by
  intro D nD
  refine lc_list (K := K) (a := a) (xs := ys) (fun i H' => H' D = some (.lst (zs.take i)) ∧ Same H H') ⟨upd_same, same_upd nD⟩ (fun i H' _ h => h.2.seq hT) (fun i x H5 hx ⟨h1, h5⟩ => ?_) (fun H5 ⟨h1, h5⟩ => ?_)
  · have hi : i < ys.length := (List.getElem?_eq_some_iff.mp hx).1
    have hzi : zs[i]? = some (zs[i]'(by omega)) := List.getElem?_eq_getElem (by omega)
    refine hs i x _ H5 _ hx hzi h5 ⟨_, h1, ?_, ?_, ?_⟩
    · rw [List.length_take]
      exact Nat.lt_of_le_of_lt (by omega : min i zs.length ≤ 100000) (by decide)
    · rw [upd_same, List.take_add_one, hzi]
      rfl
    · exact same_mut h5 nD
  · rw [← hz, List.take_length] at h1
    exact hq H5 D h1 h5 nD
theorem minTps {a : Addr} {vs : List V} {t : List Int} {ts : List (List Int)} (h1 : SqL K H a vs) (t1 : Tps K H vs (t :: ts)) (h : ∀ (i : Nat) (x : Addr) (u : List Int), (t :: ts)[i]? = some u → SqT K H x (u.map V.int) → PySem.W.Tup.mk u = PySem.W.minOf (PySem.W.Tup.mk t) (ts.map PySem.W.Tup.mk) → Q (.ref x) H) : rMinD K (PySem.W.Tup Int) [.ref a] H Q := by
  have e : ∀ l : List (List Int), l.map tD = (l.map PySem.W.Tup.mk).map PySem.W.Datum.toD := fun l => by
    rw [List.map_map]
    rfl
  have d := t1.dp
  rw [e] at d
  refine ⟨a, vs, PySem.W.Tup.mk t, ts.map PySem.W.Tup.mk, rfl, h1, d, fun i y hy hm => ?_⟩
  obtain ⟨x, u, rfl, hu, hs⟩ := t1.at hy
  refine h i x u hu hs ?_
  rw [show PySem.W.Tup.mk t :: ts.map PySem.W.Tup.mk = (t :: ts).map PySem.W.Tup.mk from rfl, List.getElem?_map, hu] at hm
  exact Option.some.inj hm
def pT (p : List Int × List Int) : PySem.W.Tup Int × PySem.W.Tup Int := (PySem.W.Tup.mk p.1, PySem.W.Tup.mk p.2)
theorem minPps {a : Addr} {vs : List V} {t : List Int × List Int} {ts : List (List Int × List Int)} (h1 : SqL K H a vs) (t1 : Pps K H vs (t :: ts)) (h : ∀ (i : Nat) (x u v : Addr) (f m : List Int), (t :: ts)[i]? = some (f, m) → SqT K H x [.ref u, .ref v] → SqT K H u (f.map V.int) → SqT K H v (m.map V.int) → PySem.W.Tup.mk f = PySem.W.minOf (PySem.W.Tup.mk t.1) ((ts.map (·.1)).map PySem.W.Tup.mk) → Q (.ref x) H) : rMinD K (PySem.W.Tup Int × PySem.W.Tup Int) [.ref a] H Q := by
  have e : ∀ l : List (List Int × List Int), l.map pD = (l.map pT).map PySem.W.Datum.toD := fun l => by
    rw [List.map_map]
    rfl
  have d := t1.dp
  rw [e] at d
  refine ⟨a, vs, pT t, ts.map pT, rfl, h1, d, fun i y hy hm => ?_⟩
  obtain ⟨x, u, v, f, m, rfl, hu, hs, hf, hm2⟩ := t1.at hy
  refine h i x u v f m hu hs hf hm2 ?_
  rw [show pT t :: ts.map pT = (t :: ts).map pT from rfl, List.getElem?_map, hu] at hm
  have e2 := congrArg Prod.fst (Option.some.inj hm)
  rw [min_fst, List.map_map] at e2
  rw [List.map_map]
  exact e2
end
end R

theorem kt_off {K : PySem.W.Frag} {H : Hp} {l : Addr} {xs ys : List V} (hl : H l = some (.lst xs)) : KT K H (upd H l (.lst ys)) := fun c zs h => by
  rcases h with (h | ⟨o, h⟩) | h
  · refine .inl (.inl ?_)
    rw [upd_ne (ne_of h hl (by intro z; cases z))]
    exact h
  · refine .inl (.inr ⟨o, ?_⟩)
    rw [upd_ne (ne_of h hl (by intro z; cases z))]
    exact h
  · exact .inr h
theorem red_bd {D a b c : Int} (F : IF D a b c) (h : RedI D a b) : Bd 60 a ∧ Bd 60 b ∧ Bd 60 c := by
  obtain ⟨s1, s2, s3⟩ := F.sizes h
  obtain ⟨r0, r1, _⟩ := F.root
  have b0 := h.1
  have b1 := h.2.1
  exact ⟨Bd.om (by omega), Bd.om (by omega), Bd.om (by omega)⟩
/-! ### cycles as lists -/
abbrev M4 := Int × Int × Int × Int
def fL (f : Fm) : List Int := [f.1, f.2.1, f.2.2]
def mL (m : M4) : List Int := [m.1, m.2.1, m.2.2.1, m.2.2.2]
theorem fL_inj {f g : Fm} (h : fL f = fL g) : f = g := by
  unfold fL at h
  injection h with h1 h
  injection h with h2 h
  injection h with h3 h
  exact fm_ext h1 h2 h3
def nK (D : Int) (f : Fm) : Int := nN D f.2.1 f.2.2
def mStep (m : M4) (n : Int) : M4 := (m.1 * 0 + m.2.1 * 1, m.1 * (-1) + m.2.1 * n, m.2.2.1 * 0 + m.2.2.2 * 1, m.2.2.1 * (-1) + m.2.2.2 * n)
def mN (D : Int) (f : Fm) : Nat → M4
  | 0 => (1, 0, 0, 1)
  | k + 1 => mStep (mN D f k) (nK D (rhoN D k f))
def actM (f : Fm) (m : M4) : Fm := actF f m.1 m.2.1 m.2.2.1 m.2.2.2
def detM (m : M4) : Int := m.1 * m.2.2.2 - m.2.1 * m.2.2.1
def BdM (n : Nat) (m : M4) : Prop := Bd n m.1 ∧ Bd n m.2.1 ∧ Bd n m.2.2.1 ∧ Bd n m.2.2.2
theorem rhoN_succ (D : Int) (k : Nat) (f : Fm) : rhoN D (k + 1) f = rho D (rhoN D k f) := rhoN_add D k 1 f
theorem nK_small {D : Int} {f : Fm} (F : IFf D f) (R : RDf D f) : (nK D f).natAbs ≤ 100 := by
  obtain ⟨a, b, c⟩ := f
  have F' : IF D a b c := F
  have R' : RedI D a b := R
  obtain ⟨v1, v2, v3⟩ := bN_spec (D := D) (b := b) F'.c0
  obtain ⟨s1, s2, s3⟩ := F'.sizes R'
  obtain ⟨r0, r1, _⟩ := F'.root
  have b0 := R'.1
  have b1 := R'.2.1
  have c0 := F'.c0
  show (nN D b c).natAbs ≤ 100
  generalize nN D b c = n at *
  have e : ((2 * c * n).natAbs : Int) = 2 * ((c.natAbs : Int) * (n.natAbs : Int)) := by
    rw [Int.mul_assoc, Int.natAbs_mul, Int.natAbs_mul]
    rfl
  have t := Int.mul_le_mul_of_nonneg_right (show 1 ≤ (c.natAbs : Int) by omega) (show 0 ≤ (n.natAbs : Int) by omega)
  have : ((2 * c * n).natAbs : Int) ≤ 200 := by omega
  omega
theorem mN_one (D : Int) (f : Fm) : mL (mN D f (0 + 1)) = [0, -1, 1, nK D f] := by
  show [1 * 0 + 0 * 1, 1 * (-1) + 0 * nK D f, 0 * 0 + 1 * 1, 0 * (-1) + 1 * nK D f] = _
  rw [Int.one_mul, Int.zero_mul, Int.one_mul]
  simp
theorem mN_ok {D : Int} {f : Fm} (F : IFf D f) (R : RDf D f) : ∀ k, detM (mN D f k) = 1 ∧ rhoN D k f = actM f (mN D f k) ∧ BdM (14 * k + 1) (mN D f k)
  | 0 => ⟨rfl, (actF_one f).symm, (by unfold Bd; decide : Bd 1 1), (by unfold Bd; decide : Bd 1 0), (by unfold Bd; decide : Bd 1 0), (by unfold Bd; decide : Bd 1 1)⟩
  | k + 1 => by
    obtain ⟨h1, h2, h3⟩ := mN_ok F R k
    obtain ⟨Fk, Rk⟩ := rhoN_ok k F R
    have hn : Bd 10 (nK D (rhoN D k f)) := Bd.of (nK_small Fk Rk) (by decide)
    have e : rhoN D (k + 1) f = actF (rhoN D k f) 0 (-1) 1 (nK D (rhoN D k f)) := rhoN_succ D k f
    rw [e]
    show detM (mStep _ _) = 1 ∧ _ = actM f (mStep _ _) ∧ BdM _ (mStep _ _)
    generalize nK D (rhoN D k f) = n at *
    generalize mN D f k = m at *
    obtain ⟨p, q, r, s⟩ := m
    have y0 : Bd 1 0 := by unfold Bd; decide
    have y1 : Bd 1 1 := by unfold Bd; decide
    have ym : Bd 1 (-1) := by unfold Bd; decide
    obtain ⟨e1, e2, e3, e4⟩ := h3
    dsimp only at e1 e2 e3 e4
    have h1' : p * s - q * r = 1 := h1
    refine ⟨?_, ?_, ((e1.mul y0).add (e2.mul y1)).mono (by omega), ((e1.mul ym).add (e2.mul hn)).mono (by omega), ((e3.mul y0).add (e4.mul y1)).mono (by omega), ((e3.mul ym).add (e4.mul hn)).mono (by omega)⟩
    · show (p * 0 + q * 1) * (r * (-1) + s * n) - (p * (-1) + q * n) * (r * 0 + s * 1) = 1
      rw [← h1']
      grind
    · rw [h2]
      exact actF_mul f p q r s 0 (-1) 1 n
def ringP (D : Int) (f : Fm) (k : Nat) : List (List Int × List Int) := (List.range k).map fun i => (fL (rhoN D i f), mL (mN D f i))
def ringF (D : Int) (f : Fm) (k : Nat) : List (List Int) := (List.range k).map fun i => fL (rhoN D i f)
theorem ringP_cons (D : Int) (f : Fm) (k : Nat) : ringP D f (k + 1) = (fL f, mL (1, 0, 0, 1)) :: (List.range k).map fun i => (fL (rhoN D (i + 1) f), mL (mN D f (i + 1))) := by
  unfold ringP
  rw [List.range_succ_eq_map, List.map_cons, List.map_map]
  rfl
theorem ringF_cons (D : Int) (f : Fm) (k : Nat) : ringF D f (k + 1) = fL f :: (List.range k).map fun i => fL (rhoN D (i + 1) f) := by
  unfold ringF
  rw [List.range_succ_eq_map, List.map_cons, List.map_map]
  rfl
theorem ringP_snoc (D : Int) (f : Fm) (k : Nat) : ringP D f (k + 1) = ringP D f k ++ [(fL (rhoN D k f), mL (mN D f k))] := by
  unfold ringP
  rw [List.range_succ, List.map_append]
  rfl
theorem ringF_snoc (D : Int) (f : Fm) (k : Nat) : ringF D f (k + 1) = ringF D f k ++ [fL (rhoN D k f)] := by
  unfold ringF
  rw [List.range_succ, List.map_append]
  rfl
theorem ringP_fst (D : Int) (f : Fm) (k : Nat) : (ringP D f k).map (·.1) = ringF D f k := by
  unfold ringP ringF
  rw [List.map_map]
  rfl
theorem ringP_len (D : Int) (f : Fm) (k : Nat) : (ringP D f k).length = k := by
  unfold ringP
  rw [List.length_map, List.length_range]
theorem ringF_len (D : Int) (f : Fm) (k : Nat) : (ringF D f k).length = k := by
  unfold ringF
  rw [List.length_map, List.length_range]
theorem ringP_at {D : Int} {f : Fm} {k i : Nat} {p : List Int × List Int} (h : (ringP D f k)[i]? = some p) : i < k ∧ p = (fL (rhoN D i f), mL (mN D f i)) := by
  unfold ringP at h
  rw [List.getElem?_map] at h
  by_cases z : i < k
  · rw [List.getElem?_range z] at h
    exact ⟨z, (Option.some.inj h).symm⟩
  · rw [List.getElem?_eq_none (by rw [List.length_range]; omega)] at h
    cases h
theorem ringF_at {D : Int} {f : Fm} {k i : Nat} {p : List Int} (h : (ringF D f k)[i]? = some p) : p = fL (rhoN D i f) := by
  unfold ringF at h
  rw [List.getElem?_map] at h
  by_cases z : i < k
  · rw [List.getElem?_range z] at h
    exact (Option.some.inj h).symm
  · rw [List.getElem?_eq_none (by rw [List.length_range]; omega)] at h
    cases h
/-! a box for the cycles of discriminants up to 3,200 -/
def boxD (D : Int) : List Fm := (List.range 28).flatMap fun (k : Nat) => (List.range (2 * k + 2)).flatMap fun (j : Nat) =>
  [((rootI D - (2 * (k : Int) + 2 - D % 2)) / 2 + 1 + (j : Int), 2 * (k : Int) + 2 - D % 2, ((2 * (k : Int) + 2 - D % 2) * (2 * (k : Int) + 2 - D % 2) - D) / (4 * ((rootI D - (2 * (k : Int) + 2 - D % 2)) / 2 + 1 + (j : Int)))),
   (-((rootI D - (2 * (k : Int) + 2 - D % 2)) / 2 + 1 + (j : Int)), 2 * (k : Int) + 2 - D % 2, ((2 * (k : Int) + 2 - D % 2) * (2 * (k : Int) + 2 - D % 2) - D) / (4 * -((rootI D - (2 * (k : Int) + 2 - D % 2)) / 2 + 1 + (j : Int))))]
theorem boxD_len (D : Int) : (boxD D).length = 1624 := by
  unfold boxD
  simp only [List.length_flatMap, List.length_cons, List.length_nil]
  decide +kernel
theorem boxD_mem {D : Int} {f : Fm} (F : IFf D f) (R : RDf D f) (hD : D ≤ 3200) : f ∈ boxD D := by
  obtain ⟨a, b, c⟩ := f
  have F' : IF D a b c := F
  obtain ⟨q1, q2, q3, q4⟩ := (show RedI D a b from R)
  obtain ⟨r0, _, r2, r3⟩ := F'.root
  have e := F'.cc
  have a0 := F'.a0
  have r56 : rootI D ≤ 56 := by
    by_cases z : rootI D ≤ 56
    · exact z
    · have := Int.mul_le_mul (show 57 ≤ rootI D by omega) (show 57 ≤ rootI D by omega) (by omega) (by omega)
      omega
  have par : D % 2 = b % 2 := by
    have e2 : b * b = (b / 2) * (b / 2) * 4 + 4 * (b / 2) * (b % 2) + (b % 2) * (b % 2) := by
      have h := Int.mul_ediv_add_emod b 2
      generalize b / 2 = x at *
      generalize b % 2 = y at *
      rw [← h]
      grind
    have h2 : (b % 2) * (b % 2) = b % 2 := by
      rcases Int.emod_two_eq b with h | h <;> rw [h] <;> rfl
    rw [h2, Int.mul_assoc 4] at e2
    generalize (b / 2) * (b / 2) = x at *
    generalize (b / 2) * (b % 2) = y at *
    generalize a * c = w at *
    omega
  have hb : 2 * ((((b + D % 2 - 2) / 2).toNat : Nat) : Int) + 2 - D % 2 = b := by omega
  have hc : ∀ a' : Int, a' = a → (b * b - D) / (4 * a') = c := by
    rintro a' rfl
    rw [← e, ← Int.mul_assoc]
    exact Int.mul_ediv_cancel_left _ (by omega)
  refine List.mem_flatMap.mpr ⟨((b + D % 2 - 2) / 2).toNat, List.mem_range.mpr (by omega), List.mem_flatMap.mpr ⟨((a.natAbs : Int) - (rootI D - b) / 2 - 1).toNat, List.mem_range.mpr (by omega), ?_⟩⟩
  rw [hb]
  have ha : (rootI D - b) / 2 + 1 + ((((a.natAbs : Int) - (rootI D - b) / 2 - 1).toNat : Nat) : Int) = (a.natAbs : Int) := by omega
  rw [ha]
  rcases Int.lt_or_le 0 a with z | z
  · rw [show (a.natAbs : Int) = a by omega, hc a rfl]
    exact List.mem_cons_self
  · rw [show -(a.natAbs : Int) = a by omega, hc a rfl]
    exact List.mem_cons_of_mem _ List.mem_cons_self
theorem ring_ok {D : Int} {f : Fm} (F : IFf D f) (R : RDf D f) (hD : D ≤ 3200) : ∃ k, Cyc D f (k + 1) ∧ k + 1 ≤ 1624 := by
  obtain ⟨n, hn, hl⟩ := cyc_of F R (box := boxD D) fun i => boxD_mem (rhoN_ok i F R).1 (rhoN_ok i F R).2 hD
  rw [boxD_len] at hl
  obtain ⟨k, rfl⟩ : ∃ k, n = k + 1 := ⟨n - 1, by have := hn.n0; omega⟩
  exact ⟨k, hn, hl⟩
theorem Cyc.mod {D : Int} {f : Fm} {n : Nat} (h : Cyc D f n) (i : Nat) : rhoN D (i % n) f = rhoN D i f := by
  conv => rhs; rw [← Nat.div_add_mod i n, rhoN_add, rhoN_mul h.back]
theorem ringF_mem {D : Int} {f : Fm} {n : Nat} (h : Cyc D f n) {z : List Int} : z ∈ ringF D f n ↔ ∃ i, z = fL (rhoN D i f) := by
  unfold ringF
  rw [List.mem_map]
  constructor
  · rintro ⟨i, _, rfl⟩
    exact ⟨i, rfl⟩
  · rintro ⟨i, rfl⟩
    exact ⟨i % n, List.mem_range.mpr (Nat.mod_lt _ h.n0), by rw [h.mod]⟩
/-- the least form of a cycle -/
def leastT (D : Int) (f : Fm) (k : Nat) : PySem.W.Tup Int := PySem.W.minOf (PySem.W.Tup.mk (fL f)) (((List.range k).map fun i => fL (rhoN D (i + 1) f)).map PySem.W.Tup.mk)
theorem least_cycle {D : Int} {f g : Fm} {k l m : Nat} (hf : Cyc D f (k + 1)) (hg : Cyc D g (l + 1)) (e : rhoN D m f = g) : leastT D f k = leastT D g l := by
  have hm : ∀ (f : Fm) (k : Nat), Cyc D f (k + 1) → ∀ z, z ∈ (PySem.W.Tup.mk (fL f) :: ((List.range k).map fun i => fL (rhoN D (i + 1) f)).map PySem.W.Tup.mk) ↔ ∃ i, z = PySem.W.Tup.mk (fL (rhoN D i f)) := by
    intro f k h z
    rw [← List.map_cons, ← ringF_cons, List.mem_map]
    constructor
    · rintro ⟨x, hx, rfl⟩
      obtain ⟨i, rfl⟩ := (ringF_mem h).mp hx
      exact ⟨i, rfl⟩
    · rintro ⟨i, rfl⟩
      exact ⟨_, (ringF_mem h).mpr ⟨i, rfl⟩, rfl⟩
  obtain ⟨m2, e2⟩ := rhoN_back hf.n0 hf.back e
  refine min_alike (fun z hz => ?_) (fun z hz => ?_)
  · obtain ⟨i, rfl⟩ := (hm f k hf z).mp hz
    exact (hm g l hg _).mpr ⟨m2 + i, by rw [rhoN_add, e2]⟩
  · obtain ⟨i, rfl⟩ := (hm g l hg z).mp hz
    exact (hm f k hf _).mpr ⟨m + i, by rw [rhoN_add, e]⟩
/-- forms of one class have one least form -/
theorem least_class {D : Int} {f g : Fm} {k l : Nat} {p q r s : Int} (hD : D ≤ 3200) (F : IFf D f) (G : IFf D g) (Rf : RDf D f) (Rg : RDf D g) (hf : Cyc D f (k + 1)) (hg : Cyc D g (l + 1)) (hd : p * s - q * r = 1) (e : g = actF f p q r s) : leastT D f k = leastT D g l := by
  obtain ⟨m, hm⟩ := class_cycle (fun x hx rx => by
    obtain ⟨k, h, _⟩ := ring_ok hx rx hD
    exact ⟨k + 1, h.n0, h.back⟩) F G Rf Rg hd e
  exact least_cycle hf hg hm

/-- the least form of the cycle that f leads to -/
abbrev CanF (D : Int) (f h : Fm) : Prop := ∃ (g : Fm) (k : Nat) (w : M4), IFf D g ∧ RDf D g ∧ detM w = 1 ∧ g = actM f w ∧ Cyc D g (k + 1) ∧ PySem.W.Tup.mk (fL h) = leastT D g k
/-- what canonical gives -/
structure CanI (D : Int) (f h : Fm) (m : M4) : Prop where
  det : detM m = 1
  act : h = actM f m
  bd : BdM 36901 m
  from_ : CanF D f h
theorem canF_uniq {D : Int} {f f' h h' : Fm} {n : M4} (hD : D ≤ 3200) (C : CanF D f h) (C' : CanF D f' h') (hn : detM n = 1) (e : f' = actM f n) : h' = h := by
  obtain ⟨g, k, w, G, Rg, dw, eg, cy, hl⟩ := C
  obtain ⟨g', k', w', G', Rg', dw', eg', cy', hl'⟩ := C'
  obtain ⟨w1, w2, w3, w4⟩ := w
  obtain ⟨n1, n2, n3, n4⟩ := n
  obtain ⟨v1, v2, v3, v4⟩ := w'
  have dw : w1 * w4 - w2 * w3 = 1 := dw
  have hn : n1 * n4 - n2 * n3 = 1 := hn
  have dw' : v1 * v4 - v2 * v3 = 1 := dw'
  have eg : g = actF f w1 w2 w3 w4 := eg
  have e : f' = actF f n1 n2 n3 n4 := e
  have eg' : g' = actF f' v1 v2 v3 v4 := eg'
  have ef : f = actF g w4 (-w2) (-w3) w1 := by rw [eg, actF_inv f dw]
  rw [e, ef, actF_mul, actF_mul] at eg'
  have e5 := least_class hD G G' Rg Rg' cy cy' (by
    have e6 : ∀ x1 x2 x3 x4 y1 y2 y3 y4 : Int, (x1 * y1 + x2 * y3) * (x3 * y2 + x4 * y4) - (x1 * y2 + x2 * y4) * (x3 * y1 + x4 * y3) = (x1 * x4 - x2 * x3) * (y1 * y4 - y2 * y3) := by
      intros
      grind
    rw [e6, e6, hn, dw']
    have : w4 * w1 - -w2 * -w3 = 1 := by rw [← dw]; grind
    rw [this]
    rfl) eg'
  rw [← hl, ← hl'] at e5
  injection e5 with e5
  exact (fL_inj e5).symm
theorem act_mul (a b c p q r s p2 q2 r2 s2 : Int) : fA (fA a b c p r) (fB a b c p q r s) (fA a b c q s) p2 r2 = fA a b c (p * p2 + q * r2) (r * p2 + s * r2) ∧
    fB (fA a b c p r) (fB a b c p q r s) (fA a b c q s) p2 q2 r2 s2 = fB a b c (p * p2 + q * r2) (p * q2 + q * s2) (r * p2 + s * r2) (r * q2 + s * s2) ∧
    fA (fA a b c p r) (fB a b c p q r s) (fA a b c q s) q2 s2 = fA a b c (p * q2 + q * s2) (r * q2 + s * s2) := by
  unfold fA fB
  refine ⟨by grind, by grind, by grind⟩
theorem cs_uniq {k a b c n1 n2 n3 n4 c1 c2 p q r s p2 q2 r2 s2 : Int} (k0 : 0 < k) (C1 : CS k a b c c1 p q r s) (hn : n1 * n4 - n2 * n3 = 1) (C2 : CS k (fA a b c n1 n3) (fB a b c n1 n2 n3 n4) (fA a b c n2 n4) c2 p2 q2 r2 s2) : c1 = c2 := by
  obtain ⟨i1, i2, d1, e1, e2, e3⟩ := C1
  obtain ⟨j1, j2, d2, g1, g2, g3⟩ := C2
  -- back to (a, b, c)
  obtain ⟨v1, v2, v3⟩ := act_mul a b c p q r s s (-q) (-r) p
  rw [← e1, ← e2, ← e3] at v1 v2 v3
  have w1 : p * s + q * -r = 1 := by rw [← d1]; grind
  have w2 : r * s + s * -r = 0 := by grind
  have w3 : p * -q + q * p = 0 := by grind
  have w4 : r * -q + s * p = 1 := by rw [← d1]; grind
  rw [w1, w2] at v1
  rw [w1, w2, w3, w4] at v2
  rw [w3, w4] at v3
  have u1 : fA a b c 1 0 = a := by unfold fA; grind
  have u2 : fB a b c 1 0 0 1 = b := by unfold fB; grind
  have u3 : fA a b c 0 1 = c := by unfold fA; grind
  rw [u1] at v1
  rw [u2] at v2
  rw [u3] at v3
  obtain ⟨m1, m2, m3⟩ := act_mul a b c n1 n2 n3 n4 p2 q2 r2 s2
  rw [← g1] at m1
  rw [← g2] at m2
  rw [← g3] at m3
  obtain ⟨o1, o2, o3⟩ := act_mul 0 k c1 s (-q) (-r) p (n1 * p2 + n2 * r2) (n1 * q2 + n2 * s2) (n3 * p2 + n4 * r2) (n3 * q2 + n4 * s2)
  rw [v1, v2, v3] at o1 o2 o3
  rw [← m1] at o1
  rw [← m2] at o2
  rw [← m3] at o3
  refine split_one k0 ?_ i1 i2 j1 j2 o1 o2 o3
  have e : (s * (n1 * p2 + n2 * r2) + -q * (n3 * p2 + n4 * r2)) * (-r * (n1 * q2 + n2 * s2) + p * (n3 * q2 + n4 * s2)) - (s * (n1 * q2 + n2 * s2) + -q * (n3 * q2 + n4 * s2)) * (-r * (n1 * p2 + n2 * r2) + p * (n3 * p2 + n4 * r2)) = (p * s - q * r) * ((n1 * n4 - n2 * n3) * (p2 * s2 - q2 * r2)) := by grind
  rw [e, d1, hn, d2]
  rfl
theorem FL.bd {a b c g p q : Int} (h : FL a b c g p q) : g.natAbs ≤ a.natAbs + c.natAbs ∧ p.natAbs ≤ a.natAbs + 1 ∧ q.natAbs ≤ c.natAbs + 1 := by
  obtain ⟨ea, eb, ec, co, sg, g0⟩ := h
  have na : a.natAbs = g.natAbs * (p.natAbs * p.natAbs) := by rw [ea, Int.natAbs_mul, Int.natAbs_mul]
  have nc : c.natAbs = g.natAbs * (q.natAbs * q.natAbs) := by rw [ec, Int.natAbs_mul, Int.natAbs_mul]
  have g1 : 1 ≤ g.natAbs := by omega
  have key : ∀ x : Nat, x ≤ g.natAbs * (x * x) := by
    intro x
    have h1 : x ≤ x * x := by
      cases x with
      | zero => exact Nat.le_refl _
      | succ n => exact Nat.le_mul_of_pos_left _ (Nat.succ_pos n)
    exact Nat.le_trans h1 (Nat.le_mul_of_pos_left _ g1)
  have k1 := key p.natAbs
  have k2 := key q.natAbs
  refine ⟨?_, by omega, by omega⟩
  rcases sg with s | ⟨_, s⟩
  · have : g.natAbs * 1 ≤ g.natAbs * (p.natAbs * p.natAbs) := Nat.mul_le_mul_left _ (Nat.mul_pos (by omega) (by omega))
    omega
  · rw [s] at nc
    have : g.natAbs * (Int.natAbs 1 * Int.natAbs 1) = g.natAbs := by simp
    omega
theorem fl_act {g P Q a b c w1 w2 w3 w4 : Int} (g0 : g ≠ 0) (h : P ≠ 0 ∨ Q ≠ 0) (ea : a = g * (P * P)) (eb : b = 2 * (g * (P * Q))) (ec : c = g * (Q * Q)) (hd : w1 * w4 - w2 * w3 = 1) : ∃ g' p q, FL (fA a b c w1 w3) (fB a b c w1 w2 w3 w4) (fA a b c w2 w4) g' p q := by
  have hne : P * w1 + Q * w3 ≠ 0 ∨ P * w2 + Q * w4 ≠ 0 := by
    by_cases u1 : P * w1 + Q * w3 = 0
    · right
      intro u2
      have e1 : P = 0 := by
        have : P * (w1 * w4 - w2 * w3) = w4 * (P * w1 + Q * w3) - w3 * (P * w2 + Q * w4) := by grind
        rw [hd, u1, u2] at this
        omega
      have e2 : Q = 0 := by
        have : Q * (w1 * w4 - w2 * w3) = w1 * (P * w2 + Q * w4) - w2 * (P * w1 + Q * w3) := by grind
        rw [hd, u1, u2] at this
        omega
      rcases h with h | h
      · exact h e1
      · exact h e2
    · exact .inl u1
  refine FL.of g0 hne ?_ ?_ ?_
  · rw [ea, eb, ec]
    unfold fA
    grind
  · rw [ea, eb, ec]
    unfold fB
    grind
  · rw [ea, eb, ec]
    unfold fA
    grind
theorem flat_leads {a b c g p q u v : Int} (h : FL a b c g p q) (e : u * p + v * q = 1) : u * p - -q * v = 1 ∧ g = fA a b c u v ∧ 0 = fB a b c u (-q) v p ∧ 0 = fA a b c (-q) p := by
  obtain ⟨ea, eb, ec, co, sg, g0⟩ := h
  have h1 : u * p - -q * v = 1 := by rw [← e]; grind
  have h2 : fA a b c u v = g * ((u * p + v * q) * (u * p + v * q)) := by
    rw [ea, eb, ec]
    unfold fA
    grind
  refine ⟨h1, by rw [h2, e]; omega, ?_, ?_⟩
  · rw [ea, eb, ec]
    unfold fB
    grind
  · rw [ea, eb, ec]
    unfold fA
    grind

/-! ### the four sorts of forms -/
inductive Srt where
  | d (E g : Int)
  | i (D : Int)
  | s (k : Int)
  | f (g p q : Int)
def InS : Srt → Fm → Prop
  | .d E g, f => ((g = 1 ∧ 0 < f.1) ∨ (g = -1 ∧ f.1 < 0)) ∧ PF E (g * f.1) (g * f.2.1) (g * f.2.2)
  | .i D, f => IF D f.1 f.2.1 f.2.2 ∧ D ≤ 3200
  | .s k, f => SF k f.1 f.2.1 f.2.2 ∧ k ≤ 1000
  | .f g p q, f => FlatR f.1 f.2.1 f.2.2 g p q
/-- h is the canonical form of f -/
def CnS : Srt → Fm → Fm → Prop
  | .d _ g, f, h => ∃ m : M4, detM m = 1 ∧ h = actM f m ∧ RedD (g * h.1) (g * h.2.1) (g * h.2.2)
  | .i D, f, h => CanF D f h
  | .s k, f, h => ∃ c' p q r s, h = (0, k, c') ∧ CS k f.1 f.2.1 f.2.2 c' p q r s
  | .f g _ _, _, h => h = (g, 0, 0)
def kdS : Srt → Str
  | .d _ _ => "definite"
  | .i _ => "indefinite"
  | .s _ => "split"
  | .f _ _ _ => "flat"
theorem sg_cancel {g x y : Int} (h : g = 1 ∨ g = -1) (e : g * x = g * y) : x = y := by
  rcases h with rfl | rfl <;> omega
theorem fA_sg (g a b c p r : Int) : fA (g * a) (g * b) (g * c) p r = g * fA a b c p r := by
  unfold fA
  grind
theorem fB_sg (g a b c p q r s : Int) : fB (g * a) (g * b) (g * c) p q r s = g * fB a b c p q r s := by
  unfold fB
  grind
theorem redD_pos {a b c : Int} (h : RedD a b c) : 0 < a := by
  obtain ⟨h1, h2, _⟩ := h
  omega
theorem pf_dsc {E g a b c : Int} (h : g = 1 ∨ g = -1) (F : PF E (g * a) (g * b) (g * c)) : dsc a b c = -E := by
  have d := F.d
  unfold dsc
  rcases h with rfl | rfl
  · grind
  · grind
theorem pf_of {E g a b c : Int} (h : g = 1 ∨ g = -1) (d : dsc a b c = -E) (e0 : 0 < E) (e1 : E ≤ 10000) (a0 : 0 < g * a) : PF E (g * a) (g * b) (g * c) := by
  refine ⟨?_, e0, e1, a0⟩
  unfold dsc at d
  rcases h with rfl | rfl
  · grind
  · grind
theorem sg_or {g a : Int} (h : (g = 1 ∧ 0 < a) ∨ (g = -1 ∧ a < 0)) : g = 1 ∨ g = -1 := by omega
theorem det_mul {x1 x2 x3 x4 y1 y2 y3 y4 : Int} (h1 : x1 * x4 - x2 * x3 = 1) (h2 : y1 * y4 - y2 * y3 = 1) : (x1 * y1 + x2 * y3) * (x3 * y2 + x4 * y4) - (x1 * y2 + x2 * y4) * (x3 * y1 + x4 * y3) = 1 := by
  have e : (x1 * y1 + x2 * y3) * (x3 * y2 + x4 * y4) - (x1 * y2 + x2 * y4) * (x3 * y1 + x4 * y3) = (x1 * x4 - x2 * x3) * (y1 * y4 - y2 * y3) := by grind
  rw [e, h1, h2]
  rfl
theorem det_inv {p q r s : Int} (h : p * s - q * r = 1) : s * p - -q * -r = 1 := by
  rw [← h]
  grind
/-- one class has one canonical form -/
theorem cn_uniq {S : Srt} {f h h' : Fm} (I : InS S f) (C : CnS S f h) (C' : CnS S f h') : h = h' := by
  obtain ⟨a, b, c⟩ := f
  cases S with
  | d E g =>
    obtain ⟨hg, F⟩ := I
    have hg1 := sg_or hg
    obtain ⟨⟨p, q, r, s⟩, dm, e, R⟩ := C
    obtain ⟨⟨p', q', r', s'⟩, dm', e', R'⟩ := C'
    obtain ⟨x, y, z⟩ := h
    obtain ⟨x', y', z'⟩ := h'
    have dm : p * s - q * r = 1 := dm
    have dm' : p' * s' - q' * r' = 1 := dm'
    have e : (x, y, z) = actF (a, b, c) p q r s := e
    have e' : (x', y', z') = actF (a, b, c) p' q' r' s' := e'
    have R : RedD (g * x) (g * y) (g * z) := R
    have R' : RedD (g * x') (g * y') (g * z') := R'
    have ef : (a, b, c) = actF (x, y, z) s (-q) (-r) p := by rw [e, actF_inv _ dm]
    rw [ef, actF_mul] at e'
    have dd := det_mul (det_inv dm) dm'
    have v1 : x' = fA x y z _ _ := congrArg (fun f : Fm => f.1) e'
    have v2 : y' = fB x y z _ _ _ _ := congrArg (fun f : Fm => f.2.1) e'
    have v3 : z' = fA x y z _ _ := congrArg (fun f : Fm => f.2.2) e'
    have dF := pf_dsc hg1 F
    have dx : dsc x y z = -E := by
      have u1 : x = fA a b c p r := congrArg (fun f : Fm => f.1) e
      have u2 : y = fB a b c p q r s := congrArg (fun f : Fm => f.2.1) e
      have u3 : z = fA a b c q s := congrArg (fun f : Fm => f.2.2) e
      rw [u1, u2, u3, dsc_act, dm, dF, Int.mul_one, Int.mul_one]
    generalize s * p' + -q * r' = w1 at *
    generalize s * q' + -q * s' = w2 at *
    generalize -r * p' + p * r' = w3 at *
    generalize -r * q' + p * s' = w4 at *
    have dx' : dsc x' y' z' = -E := by rw [v1, v2, v3, dsc_act, dd, dx, Int.mul_one, Int.mul_one]
    have G := pf_of hg1 dx F.e0 F.e1 (redD_pos R)
    have G' := pf_of hg1 dx' F.e0 F.e1 (redD_pos R')
    obtain ⟨t1, t2, t3⟩ := uniq G R G' R' dd (by rw [fA_sg, ← v1]) (by rw [fB_sg, ← v2]) (by rw [fA_sg, ← v3])
    exact fm_ext (sg_cancel hg1 t1) (sg_cancel hg1 t2) (sg_cancel hg1 t3)
  | i D => exact canF_uniq (n := (1, 0, 0, 1)) I.2 C' C rfl (actF_one _).symm
  | s k =>
    obtain ⟨c1, p, q, r, s, rfl, C⟩ := C
    obtain ⟨c2, p', q', r', s', rfl, C'⟩ := C'
    have u := actF_one (a, b, c)
    have u1 : fA a b c 1 0 = a := congrArg (fun f : Fm => f.1) u
    have u2 : fB a b c 1 0 0 1 = b := congrArg (fun f : Fm => f.2.1) u
    have u3 : fA a b c 0 1 = c := congrArg (fun f : Fm => f.2.2) u
    have e := cs_uniq (n1 := 1) (n2 := 0) (n3 := 0) (n4 := 1) I.1.k0 C rfl (by rw [u1, u2, u3]; exact C')
    rw [e]
  | f g p q => exact (show h = (g, 0, 0) from C).trans (show h' = (g, 0, 0) from C').symm
/-- every flat form has its parts -/
theorem flat_of {a b c : Int} (h : dsc a b c = 0) : ∃ g p q, FlatR a b c g p q := by
  unfold dsc at h
  have hb : b % 2 = 0 := by
    have e2 : b * b = 2 * ((b / 2) * (b / 2) * 2 + 2 * (b / 2) * (b % 2)) + (b % 2) * (b % 2) := by
      have h := Int.mul_ediv_add_emod b 2
      generalize b / 2 = x at *
      generalize b % 2 = y at *
      rw [← h]
      grind
    rw [Int.mul_assoc 4] at h
    rcases Int.emod_two_eq b with w | w
    · exact w
    · rw [w] at e2
      generalize a * c = u at *
      generalize (b / 2) * (b / 2) = v at *
      omega
  obtain ⟨t, rfl⟩ : ∃ t, b = 2 * t := ⟨b / 2, by omega⟩
  have h1 : t * t = a * c := by
    have e : 2 * t * (2 * t) - 4 * a * c = 4 * (t * t - a * c) := by grind
    rw [e] at h
    omega
  by_cases a0 : a = 0
  · subst a0
    have t0 : t = 0 := by
      rw [Int.zero_mul] at h1
      exact (Int.mul_eq_zero.mp h1).elim id id
    subst t0
    by_cases c0 : c = 0
    · exact ⟨0, 1, 0, .inl ⟨rfl, rfl, c0, rfl, rfl, rfl⟩⟩
    · obtain ⟨g, p, q, F⟩ := FL.of (a := 0) (b := 2 * 0) (c := c) (g := c) (P := 0) (Q := 1) c0 (.inr (by decide)) (by simp) (by simp) (by simp)
      exact ⟨g, p, q, .inr F⟩
  · -- the measure of a and t
    have G0 : Nat.gcd a.natAbs t.natAbs ≠ 0 := by
      intro z
      have := Nat.eq_zero_of_gcd_eq_zero_left z
      omega
    obtain ⟨⟨G, hG0, p, q, ea, et, co⟩⟩ : Nonempty (∃ G : Int, G ≠ 0 ∧ ∃ p q : Int, a = G * p ∧ t = G * q ∧ Nat.Coprime p.natAbs q.natAbs) := by
      refine ⟨((Nat.gcd a.natAbs t.natAbs : Nat) : Int), by omega, ?_⟩
      obtain ⟨p, hp⟩ : ((Nat.gcd a.natAbs t.natAbs : Nat) : Int) ∣ a := Int.ofNat_dvd_left.mpr (Nat.gcd_dvd_left _ _)
      obtain ⟨q, hq⟩ : ((Nat.gcd a.natAbs t.natAbs : Nat) : Int) ∣ t := Int.ofNat_dvd_left.mpr (Nat.gcd_dvd_right _ _)
      refine ⟨p, q, hp, hq, ?_⟩
      have e : Nat.gcd a.natAbs t.natAbs = Nat.gcd a.natAbs t.natAbs * Nat.gcd p.natAbs q.natAbs := by
        rw [← Nat.gcd_mul_left]
        have h1 : a.natAbs = Nat.gcd a.natAbs t.natAbs * p.natAbs := by
          have h := congrArg Int.natAbs hp
          rw [Int.natAbs_mul] at h
          exact h
        have h2 : t.natAbs = Nat.gcd a.natAbs t.natAbs * q.natAbs := by
          have h := congrArg Int.natAbs hq
          rw [Int.natAbs_mul] at h
          exact h
        rw [← h1, ← h2]
      have e2 : Nat.gcd a.natAbs t.natAbs * Nat.gcd p.natAbs q.natAbs = Nat.gcd a.natAbs t.natAbs * 1 := by rw [← e, Nat.mul_one]
      exact Nat.eq_of_mul_eq_mul_left (by omega) e2
    have h2 : G * (q * q) = p * c := by
      refine Int.eq_of_mul_eq_mul_left hG0 ?_
      have e : G * (G * (q * q)) = t * t := by rw [et]; grind
      rw [e, h1, ea]
      grind
    have p0 : p ≠ 0 := by
      rintro rfl
      omega
    have hd : p ∣ G := by
      refine Int.natAbs_dvd_natAbs.mp ?_
      have h3 : p.natAbs ∣ G.natAbs * (q.natAbs * q.natAbs) := by
        have : G.natAbs * (q.natAbs * q.natAbs) = p.natAbs * c.natAbs := by
          have h := congrArg Int.natAbs h2
          rw [Int.natAbs_mul, Int.natAbs_mul, Int.natAbs_mul] at h
          exact h
        rw [this]
        exact ⟨_, rfl⟩
      exact Nat.Coprime.dvd_of_dvd_mul_right (Nat.Coprime.mul_right co co) h3
    obtain ⟨g, rfl⟩ := hd
    have h3 : c = g * (q * q) := by
      refine Int.eq_of_mul_eq_mul_left p0 ?_
      rw [← h2]
      grind
    have g0 : g ≠ 0 := by
      rintro rfl
      omega
    obtain ⟨g', p', q', F⟩ := FL.of (a := a) (b := 2 * t) (c := c) (g := g) (P := p) (Q := q) g0 (.inl p0) (by rw [ea]; grind) (by rw [et]; grind) h3
    exact ⟨g', p', q', .inr F⟩
/-- discriminants that the promises take -/
structure Dk (D : Int) : Prop where
  lo : -10000 ≤ D
  hi : D ≤ 1000000
  ns : rootI D * rootI D ≠ D → D ≤ 3200
theorem flatR_dsc {a b c g p q : Int} (F : FlatR a b c g p q) : dsc a b c = 0 := by
  rcases F with ⟨rfl, rfl, rfl, _⟩ | F
  · rfl
  · rw [F.ea, F.eb, F.ec]
    unfold dsc
    grind
theorem inS_dk {S : Srt} {a b c : Int} (h : InS S (a, b, c)) : Dk (dsc a b c) := by
  cases S with
  | d E g =>
    obtain ⟨hg, F⟩ := h
    have e : dsc a b c = -E := pf_dsc (sg_or hg) F
    have := F.e0
    have := F.e1
    exact ⟨by omega, by omega, fun _ => by omega⟩
  | i D =>
    obtain ⟨F, hD⟩ := h
    have e : dsc a b c = D := F.d
    have := F.d0
    exact ⟨by omega, by omega, fun _ => by omega⟩
  | s k =>
    obtain ⟨F, hk⟩ := h
    have e : dsc a b c = k * k := F.d
    have r : rootI (dsc a b c) = k := F.root
    have k0 := F.k0
    have k2 : k * k ≤ 1000000 := Int.mul_le_mul hk hk (by omega) (by omega)
    have k3 : 0 ≤ k * k := Int.mul_nonneg (by omega) (by omega)
    exact ⟨by omega, by omega, fun z => absurd (by rw [r, e]) z⟩
  | f g p q =>
    have e : dsc a b c = 0 := flatR_dsc (show FlatR a b c g p q from h)
    rw [e]
    exact ⟨by decide, by decide, fun _ => by decide⟩
theorem inS_of {a b c : Int} (h : Dk (dsc a b c)) : ∃ S, InS S (a, b, c) := by
  obtain ⟨h1, h2, h3⟩ := h
  rcases Int.lt_trichotomy (dsc a b c) 0 with z | z | z
  · have a0 : a ≠ 0 := by
      rintro rfl
      have e : dsc 0 b c = b * b := by unfold dsc; grind
      have := sqn b
      omega
    rcases Int.lt_or_gt_of_ne a0 with w | w
    · exact ⟨.d (-dsc a b c) (-1), .inr ⟨rfl, w⟩, pf_of (.inr rfl) (Int.neg_neg (dsc a b c)).symm (by omega) (by omega) (by show 0 < -1 * a; omega)⟩
    · exact ⟨.d (-dsc a b c) 1, .inl ⟨rfl, w⟩, pf_of (.inl rfl) (Int.neg_neg (dsc a b c)).symm (by omega) (by omega) (by show 0 < 1 * a; omega)⟩
  · obtain ⟨g, p, q, F⟩ := flat_of z
    exact ⟨.f g p q, F⟩
  · obtain ⟨r0, r1, r2⟩ := rootI_spec (n := dsc a b c) (by omega)
    by_cases w : rootI (dsc a b c) * rootI (dsc a b c) = dsc a b c
    · refine ⟨.s (rootI (dsc a b c)), ⟨w.symm, ?_⟩, ?_⟩
      · by_cases y : rootI (dsc a b c) = 0
        · rw [y] at w
          omega
        · show 0 < rootI (dsc a b c)
          omega
      · show rootI (dsc a b c) ≤ 1000
        by_cases y : rootI (dsc a b c) ≤ 1000
        · exact y
        · have := Int.mul_le_mul (show 1001 ≤ rootI (dsc a b c) by omega) (show 1001 ≤ rootI (dsc a b c) by omega) (by omega) (by omega)
          omega
    · exact ⟨.i (dsc a b c), ⟨rfl, z, by have := h3 w; omega, w⟩, h3 w⟩
theorem inS_kd {S : Srt} {a b c : Int} (h : InS S (a, b, c)) : kindS (dsc a b c) = kdS S := by
  unfold kindS
  cases S with
  | d E g =>
    obtain ⟨hg, F⟩ := h
    have e : dsc a b c = -E := pf_dsc (sg_or hg) F
    have := F.e0
    rw [if_pos (by omega)]
    rfl
  | i D =>
    obtain ⟨F, hD⟩ := h
    have e : dsc a b c = D := F.d
    have := F.d0
    have ns := F.ns
    rw [e, if_neg (by omega), if_neg (by omega), if_neg ns]
    rfl
  | s k =>
    obtain ⟨F, hk⟩ := h
    have k0 := F.k0
    have p : 0 < k * k := Int.mul_pos k0 k0
    have r : rootI (dsc a b c) = k := F.root
    have d : dsc a b c = k * k := F.d
    rw [if_neg (by omega), if_neg (by omega), r, if_pos d.symm]
    rfl
  | f g p q =>
    have e : dsc a b c = 0 := flatR_dsc (show FlatR a b c g p q from h)
    rw [if_neg (by omega), if_pos e]
    rfl
theorem dsc_mir (a b c : Int) : dsc a (-b) c = dsc a b c := by
  unfold dsc
  grind
theorem dsc_neg (a b c : Int) : dsc (-a) b (-c) = dsc a b c := by
  unfold dsc
  grind
theorem act_mir (a b c : Int) : a * 1 * 1 + b * 1 * 0 + c * 0 * 0 = a ∧ 2 * a * 1 * 0 + b * (1 * (-1) + 0 * 0) + 2 * c * 0 * (-1) = -b ∧ a * 0 * 0 + b * 0 * (-1) + c * (-1) * (-1) = c := by
  refine ⟨by grind, by grind, by grind⟩
theorem inS_mir {S : Srt} {a b c : Int} (h : InS S (a, b, c)) : ∃ S', InS S' (a, -b, c) := inS_of (by rw [dsc_mir]; exact inS_dk h)
/-- what canonical_form gives -/
structure CnI (S : Srt) (f h : Fm) (m : M4) : Prop where
  det : detM m = 1
  act : h = actM f m
  bd : BdM 36901 m
  cn : CnS S f h
theorem CnI.ofS {k a b c c' p q r s : Int} (C : CS k a b c c' p q r s) (b1 : Bd 9500 p) (b2 : Bd 19100 q) (b3 : Bd 9500 r) (b4 : Bd 19100 s) : CnI (.s k) (a, b, c) (0, k, c') (p, q, r, s) :=
  ⟨C.det, fm_ext C.ea C.eb C.ec, ⟨b1.mono (by decide), b2.mono (by decide), b3.mono (by decide), b4.mono (by decide)⟩, ⟨c', p, q, r, s, rfl, C⟩⟩
theorem CnI.ofF {a b c g p q u v : Int} (F : FlatR a b c g p q) (e : u * p + v * q = 1) (b1 : Bd 9404 u) (b2 : Bd 50 q) (b3 : Bd 9404 v) (b4 : Bd 50 p) : CnI (.f g p q) (a, b, c) (g, 0, 0) (u, -q, v, p) := by
  have hh : u * p - -q * v = 1 ∧ g = fA a b c u v ∧ 0 = fB a b c u (-q) v p ∧ 0 = fA a b c (-q) p := by
    rcases F with ⟨rfl, rfl, rfl, rfl, rfl, rfl⟩ | F
    · refine ⟨by rw [← e]; grind, by unfold fA; grind, by unfold fB; grind, by unfold fA; grind⟩
    · exact flat_leads F e
  exact ⟨hh.1, fm_ext hh.2.1 hh.2.2.1 hh.2.2.2, ⟨b1.mono (by decide), b2.neg.mono (by decide), b3.mono (by decide), b4.mono (by decide)⟩, rfl⟩
theorem FlatR.bd {a b c g p q : Int} (F : FlatR a b c g p q) (h1 : a.natAbs ≤ 274877906944) (h3 : c.natAbs ≤ 274877906944) : Bd 50 g ∧ Bd 50 p ∧ Bd 50 q := by
  have e50 : (2 : Nat) ^ 50 = 1125899906842624 := by decide
  unfold Bd
  rw [e50]
  rcases F with ⟨rfl, rfl, rfl, rfl, rfl, rfl⟩ | F
  · exact ⟨by decide, by decide, by decide⟩
  · obtain ⟨f1, f2, f3⟩ := F.bd
    exact ⟨by omega, by omega, by omega⟩
/-- from one form to another of its class -/
theorem lead {f f' h : Fm} {p q r s p' q' r' s' : Int} (d1 : p * s - q * r = 1) (d2 : p' * s' - q' * r' = 1) (e1 : h = actF f p q r s) (e2 : h = actF f' p' q' r' s') :
    (p * s' + q * -r') * (r * -q' + s * p') - (p * -q' + q * p') * (r * s' + s * -r') = 1 ∧ f' = actF f (p * s' + q * -r') (p * -q' + q * p') (r * s' + s * -r') (r * -q' + s * p') := by
  refine ⟨det_mul d1 (det_inv d2), ?_⟩
  rw [← actF_mul, ← e1, e2, actF_inv _ d2]
theorem lead_mir {a b c p q r s : Int} {f' : Fm} (d : p * s - q * r = 1) (e : f' = actF (a, -b, c) p q r s) :
    (1 * p + 0 * r) * (0 * q + -1 * s) - (1 * q + 0 * s) * (0 * p + -1 * r) = -1 ∧ f' = actF (a, b, c) (1 * p + 0 * r) (1 * q + 0 * s) (0 * p + -1 * r) (0 * q + -1 * s) := by
  refine ⟨by grind, ?_⟩
  rw [e]
  unfold actF
  refine fm_ext ?_ ?_ ?_ <;> (dsimp only; (try unfold fA); (try unfold fB); grind)

/-! ### the law's own canonical forms -/
theorem tD_spec {a b : Int} (a0 : 0 < a) : -a < b + 2 * a * -((b + a - 1).fdiv (2 * a)) ∧ b + 2 * a * -((b + a - 1).fdiv (2 * a)) ≤ a := by
  rw [Int.fdiv_eq_ediv_of_nonneg _ (by omega)]
  have m0 := Int.emod_nonneg (b + a - 1) (show 2 * a ≠ 0 by omega)
  have m1 := Int.emod_lt_of_pos (b + a - 1) (show 0 < 2 * a by omega)
  have m2 := Int.mul_ediv_add_emod (b + a - 1) (2 * a)
  rw [Int.mul_neg]
  omega
theorem tD_eq (a b c t : Int) : b - 2 * a * t = b + 2 * a * -t ∧ c - b * t + a * t * t = a * -t * -t + b * -t + c := by
  constructor <;> grind
/-- how far the walk down of a positive form is: its turns -/
def Lp (a b c : Int) (i : Nat) : Prop := (∃ k, i + k ≤ 300 ∧ Pt9 a k) ∨ (i ≤ 301 ∧ -a < b ∧ b ≤ a ∧ a = c ∧ 0 ≤ b)
theorem lp_start {a b c : Int} (h : a ≤ 274877906944) : Lp a b c 0 := .inl ⟨140, by decide, .inr ⟨39, rfl, by show a.toNat < 549755813888; omega⟩⟩
theorem lp_step {E a b0 c0 b c : Int} {i : Nat} (h : Lp a b0 c0 i) (hb : -a < b0 → b0 ≤ a → b = b0 ∧ c = c0) (F : PF E a b c) (v1 : -a < b) (v2 : b ≤ a) (hca : c ≤ a) (hn : ¬ (a = c ∧ 0 ≤ b)) : Lp c (-b) a (i + 1) := by
  have c0' := F.c0
  rcases h with ⟨k, hk, pt⟩ | ⟨hi, w1, w2, w3, w4⟩
  · by_cases lt : c < a
    · obtain ⟨k', h1, h2⟩ : ∃ k', k' < k ∧ Pt9 c k' := by
        by_cases x : 100 < a
        · exact pt_half pt x c0' (F.half v1 v2 x)
        · exact pt_less pt (by omega) c0' lt
      exact .inl ⟨k', by omega, h2⟩
    · have e : a = c := by omega
      exact .inr ⟨by omega, by omega, by omega, e.symm, by omega⟩
  · obtain ⟨e1, e2⟩ := hb w1 w2
    exact absurd ⟨by omega, by omega⟩ hn
theorem lp_end {a b c : Int} {i : Nat} (h : Lp a b c i) : i ≤ 301 := by
  rcases h with ⟨k, hk, _⟩ | ⟨hi, _⟩ <;> omega
theorem t_same {a b : Int} (a0 : 0 < a) (v1 : -a < b) (v2 : b ≤ a) : -((b + a - 1).fdiv (2 * a)) = 0 := by
  rw [Int.fdiv_eq_ediv_of_nonneg _ (by omega), Int.ediv_eq_zero_of_lt (by omega) (by omega)]
  rfl
theorem bd_n {a b n : Int} (a0 : 0 < a) (hb : (b.natAbs : Int) ≤ 1099511627776) (ha : a ≤ 274877906944) (v1 : -a < b + 2 * a * n) (v2 : b + 2 * a * n ≤ a) : n.natAbs ≤ 1374389534720 := by
  have e : ((2 * a * n).natAbs : Int) = 2 * (a * (n.natAbs : Int)) := by
    rw [Int.mul_assoc, Int.natAbs_mul, Int.natAbs_mul, show a.natAbs = a.toNat by omega]
    rw [show ((2 : Int).natAbs * (a.toNat * n.natAbs) : Nat) = 2 * (a.toNat * n.natAbs) from rfl]
    rw [Int.natCast_mul, Int.natCast_mul, Int.toNat_of_nonneg (by omega)]
    rfl
  have t := Int.mul_le_mul_of_nonneg_right (show 1 ≤ a by omega) (show 0 ≤ (n.natAbs : Int) by omega)
  omega
/-- the middle number of the law's own walk down -/
def mL9 (D b c : Int) : Int := (if rootI D < (c.natAbs : Int) then (c.natAbs : Int) else rootI D) - ((if rootI D < (c.natAbs : Int) then (c.natAbs : Int) else rootI D) + b) % (2 * (c.natAbs : Int))
theorem mL9_spec {D a b c : Int} (F : IF D a b c) : (rootI D < (c.natAbs : Int) → ((mL9 D b c).natAbs : Int) ≤ (c.natAbs : Int)) ∧ (¬ rootI D < (c.natAbs : Int) → rootI D - 2 * (c.natAbs : Int) < mL9 D b c ∧ mL9 D b c ≤ rootI D) ∧ ∃ n, mL9 D b c = -b + 2 * c * n ∧ (mL9 D b c * mL9 D b c - D).fdiv (4 * c) = a - b * n + c * n * n := by
  have c0 := F.c0
  unfold mL9
  generalize hT : (if rootI D < (c.natAbs : Int) then (c.natAbs : Int) else rootI D) = T
  have m0 := Int.emod_nonneg (T + b) (show 2 * (c.natAbs : Int) ≠ 0 by omega)
  have m1 := Int.emod_lt_of_pos (T + b) (show 0 < 2 * (c.natAbs : Int) by omega)
  have m2 := Int.mul_ediv_add_emod (T + b) (2 * (c.natAbs : Int))
  refine ⟨fun h => ?_, fun h => ?_, ?_⟩
  · rw [if_pos h] at hT
    omega
  · rw [if_neg h] at hT
    omega
  · obtain ⟨n, hn⟩ : ∃ n, 2 * (c.natAbs : Int) * ((T + b) / (2 * (c.natAbs : Int))) = 2 * c * n := by
      rcases Int.lt_or_gt_of_ne c0 with h | h
      · refine ⟨-((T + b) / (2 * (c.natAbs : Int))), ?_⟩
        rw [show (c.natAbs : Int) = -c by omega]
        grind
      · exact ⟨(T + b) / (2 * (c.natAbs : Int)), by rw [show (c.natAbs : Int) = c by omega]⟩
    have e : T - (T + b) % (2 * (c.natAbs : Int)) = -b + 2 * c * n := by omega
    refine ⟨n, e, ?_⟩
    rw [e, ← F.d]
    have e2 : (-b + 2 * c * n) * (-b + 2 * c * n) - dsc a b c = 4 * c * (a - b * n + c * n * n) := by
      unfold dsc
      grind
    rw [e2, Int.mul_fdiv_cancel_left _ (by omega)]
/-- one turn of it -/
theorem low_step {D a b c : Int} {k : Nat} (F : IF D a b c) (z : ¬ RedI D a b) (pt : Pt (rootI D) c k) (hc : (c.natAbs : Int) ≤ 1099511627776) : ∃ b' c', mL9 D b c = b' ∧ (mL9 D b c * mL9 D b c - D).fdiv (4 * c) = c' ∧ IF D c b' c' ∧ (c, b', c') = actF (a, b, c) 0 (-1) 1 ((b + b').fdiv (2 * c)) ∧ (b'.natAbs : Int) ≤ 1099511627776 ∧ (c'.natAbs : Int) ≤ 1099511627776 ∧ (RedI D c b' ∨ ∃ k', k' < k ∧ Pt (rootI D) c' k') := by
  obtain ⟨w1, w2, n, hn, hc'⟩ := mL9_spec F
  have c0 := F.c0
  have F2 := F.go n
  obtain ⟨r0, r1, r2, r3⟩ := F.root
  rw [← hn, ← hc'] at F2
  have e0 : (b + mL9 D b c).fdiv (2 * c) = n := by
    rw [hn, show b + (-b + 2 * c * n) = 2 * c * n by omega, Int.mul_fdiv_cancel_left _ (by omega)]
  refine ⟨mL9 D b c, (mL9 D b c * mL9 D b c - D).fdiv (4 * c), rfl, rfl, F2, ?_, ?_⟩
  · rw [e0, hc', hn]
    refine fm_ext ?_ ?_ ?_
    · show c = fA a b c 0 1
      unfold fA
      grind
    · show -b + 2 * c * n = fB a b c 0 (-1) 1 n
      unfold fB
      grind
    · show a - b * n + c * n * n = fA a b c (-1) n
      unfold fA
      grind
  · clear hn hc' e0
    generalize mL9 D b c = b' at *
    generalize (b' * b' - D).fdiv (4 * c) = c' at *
    by_cases y : rootI D < (c.natAbs : Int)
    · have f := F2.far y (w1 y)
      obtain ⟨k', h1, h2⟩ := pt.far r1 y f c0
      have := w1 y
      exact ⟨by omega, by omega, .inr ⟨k', h1, h2⟩⟩
    · obtain ⟨x1, x2⟩ := w2 y
      have sq : b' * b' ≤ 10000 := by
        rw [← sq_abs]
        exact Int.mul_le_mul (show (b'.natAbs : Int) ≤ 100 by omega) (show (b'.natAbs : Int) ≤ 100 by omega) (by omega) (by omega)
      have sm := F2.small sq
      rcases F2.near (by omega) x1 x2 with f | f
      · exact ⟨by omega, by omega, .inl f⟩
      · obtain ⟨k', h1, h2⟩ := pt.near r1 (by omega) f
        exact ⟨by omega, by omega, .inr ⟨k', h1, h2⟩⟩
theorem actM_mul (f : Fm) (m n : M4) : ∃ w : M4, actM (actM f m) n = actM f w ∧ (detM m = 1 → detM n = 1 → detM w = 1) := by
  obtain ⟨p, q, r, s⟩ := m
  obtain ⟨x, z, y, w⟩ := n
  exact ⟨(p * x + q * y, p * z + q * w, r * x + s * y, r * z + s * w), actF_mul f p q r s x z y w, fun h1 h2 => det_mul h1 h2⟩

/-! ### sorted of int tuples -/
def leT (t u : List Int) : Prop := PySem.W.listLt u t = false
theorem leT_antisymm {t u : List Int} (h1 : leT t u) (h2 : leT u t) : t = u := ints_total _ _ h2 h1
def rSortedT (K : PySem.W.Frag) : List V → Hp → VK → Prop := fun vs H Q => ∃ (a : Addr) (ys : List V) (ts : List (List Int)), vs = [V.ref a] ∧ SqL K H a ys ∧ Tps K H ys ts ∧ (∀ t ∈ ts, t ≠ []) ∧
  ∀ (zs : List V) (us : List (List Int)) (p : Addr), us.Perm ts → us.Pairwise leT → H p = none → Tps K H zs us → Q (.ref p) (upd H p (.lst zs))
theorem tps_pairs {K : PySem.W.Frag} {H : Hp} : ∀ {ys : List V} {ts : List (List Int)} {its : List Value}, Tps K H ys ts → Vals ys its → ∃ bs : List (Addr × List Int), bs.map (·.2) = ts ∧ bs.map (fun b => Value.ref b.1) = its ∧ ∀ b ∈ bs, SqT K H b.1 (b.2.map V.int)
  | _, _, _, .nil, .nil => ⟨[], rfl, rfl, fun b h => by cases h⟩
  | _, _, _, .cons (a := a) (t := t) s tl, .cons r rl => by
    obtain ⟨bs, h1, h2, h3⟩ := tps_pairs tl rl
    refine ⟨(a, t) :: bs, by rw [List.map_cons, h1], ?_, fun b hb => ?_⟩
    · rw [List.map_cons, h2, show Value.ref (a, t).1 = _ from (show _ = Value.ref a from r).symm]
    · rcases List.mem_cons.mp hb with rfl | hb
      · exact s
      · exact h3 b hb
theorem pairs_tps {K : PySem.W.Frag} {H : Hp} : ∀ {bs : List (Addr × List Int)}, (∀ b ∈ bs, SqT K H b.1 (b.2.map V.int)) → Tps K H (bs.map fun b => V.ref b.1) (bs.map (·.2))
  | [], _ => .nil
  | b :: bs, h => .cons (h b List.mem_cons_self) (pairs_tps fun c hc => h c (List.mem_cons_of_mem _ hc))
theorem pairs_vals : ∀ bs : List (Addr × List Int), Vals (bs.map fun b => V.ref b.1) (bs.map fun b => Value.ref b.1)
  | [] => .nil
  | b :: bs => .cons (show RelV (V.ref b.1) (Value.ref b.1) from rfl) (pairs_vals bs)
theorem each_ref : ∀ bs : List (Addr × List Int), PySem.W.EachIs (fun (v : Value) (b : Addr × List Int) => v = Value.ref b.1) (bs.map fun b => Value.ref b.1) bs
  | [] => .nil
  | b :: bs => .cons rfl (each_ref bs)
theorem ref_each : ∀ {out : List Value} {bs : List (Addr × List Int)}, PySem.W.EachIs (fun (v : Value) (b : Addr × List Int) => v = Value.ref b.1) out bs → out = bs.map fun b => Value.ref b.1
  | _, _, .nil => rfl
  | _, _, .cons h t => by rw [h, ref_each t, List.map_cons]
theorem each_reads {h : Heap} : ∀ {vs : List Value} {bs : List (Addr × List Int)} {as : List Addr}, ReadsAll h vs (bs.map fun b => tD b.2) as → PySem.W.EachIs (fun v b => ∃ as, Reads h v (tD b.2) as) vs bs
  | [], [], _, _ => .nil
  | v :: vs, b :: bs, _, r => by
    rw [List.map_cons] at r
    cases r with
    | cons r1 r2 => exact .cons ⟨_, r1⟩ (each_reads r2)
  | [], b :: bs, _, r => by
    rw [List.map_cons] at r
    cases r
  | v :: vs, [], _, r => by
    rw [List.map_nil] at r
    cases r
theorem toD_tup (t : List Int) : PySem.W.Datum.toD (PySem.W.Tup.mk t) = tD t := rfl
theorem dataLe_tup {β : Type} (f : β → List Int) (p q : β) : PySem.W.dataLe false (fun b => tD (f b)) p q = !PySem.W.listLt (f q) (f p) := by
  rw [PySem.W.dataLe_eq]
  show (!PySem.W.dataLt (tD (f q)) (tD (f p))) = _
  rw [← toD_tup, ← toD_tup, PySem.W.DatumOrd.lt_eq]
  rfl
theorem le_total9 (t u : List Int) : PySem.W.listLt t u = false ∨ PySem.W.listLt u t = false := by
  cases h1 : PySem.W.listLt t u
  · exact .inl rfl
  · cases h2 : PySem.W.listLt u t
    · exact .inr rfl
    · have := ord_trans (a := PySem.W.Tup.mk t) (b := PySem.W.Tup.mk u) (c := PySem.W.Tup.mk t) h1 h2
      rw [ord_irr] at this
      cases this
theorem leT_trans {a b c : List Int} (h1 : leT a b) (h2 : leT b c) : leT a c := by
  unfold leT at *
  cases h : PySem.W.listLt c a
  · rfl
  · exfalso
    -- c < a, not b < a, so c < b
    have h' : PySem.W.DatumOrd.lt (PySem.W.Tup.mk c) (PySem.W.Tup.mk a) = true := h
    have h1' : PySem.W.DatumOrd.lt (PySem.W.Tup.mk b) (PySem.W.Tup.mk a) = false := h1
    have h2' : PySem.W.DatumOrd.lt (PySem.W.Tup.mk c) (PySem.W.Tup.mk b) = false := h2
    rw [← PySem.W.DatumOrd.lt_eq] at h' h1' h2'
    rcases (PyProof.Rows.lex_negTrans (O := PyProof.Rows.itemOrd) _ (PySem.W.keyToks (PySem.W.Datum.toD (PySem.W.Tup.mk b))) _ h' : _ ∨ _) with t | t
    · exact absurd (show PySem.W.dataLt _ _ = true from t) (by rw [h2']; decide)
    · exact absurd (show PySem.W.dataLt _ _ = true from t) (by rw [h1']; decide)
theorem cr_sortedT {X : Cx} (hu : X.A.units + 65 < cLine) : CallR X (.builtin "sorted") (rSortedT X.K) := by
  intro pins s σ H vs us Q I r h
  obtain ⟨a, ys, ts, rfl, hs, ht, hne, q⟩ := h
  obtain ⟨its, rv, hl, hz⟩ := I.list hs
  rw [Vals.ref1 r]
  obtain ⟨as, ra⟩ := Dp.readsAll I _ _ its ht.dp rv
  have hyl := rv.length
  obtain ⟨bs, e1, e2, e3⟩ := tps_pairs ht rv
  subst e1 e2
  rw [List.map_map] at ra
  have hbl : bs.length ≤ sizeLine := by
    have := ht.len
    rw [List.length_map] at this
    omega
  refine PySem.W.sorted_data (β := Addr × List Int) (bs := bs) (enc := fun b => tD b.2) (R := fun v b => v = Value.ref b.1) hl.isList (each_ref bs) (each_reads ra) ?_ ?_ hbl (fun b _ => ?_) (fun out hol ho => ?_)
  · exact PySem.W.AllAlike.of fun b b' => PySem.W.DatumOrd.alike (PySem.W.Tup.mk b.2) (PySem.W.Tup.mk b'.2)
  · refine .inl fun d hd => ?_
    obtain ⟨b, hb, rfl⟩ := List.mem_map.mp hd
    have hn := hne b.2 (List.mem_map.mpr ⟨b, hb, rfl⟩)
    cases hbb : b.2 with
    | nil => exact absurd hbb hn
    | cons x xs => exact ⟨PyData.int x, xs.map PyData.int, rfl⟩
  · have := PySem.W.Datum.depth_le (PySem.W.Tup.mk b.2)
    rw [toD_tup] at this
    have d1 : PySem.W.Datum.depth (PySem.W.Tup Int) ≤ 60 := by decide
    show X.A.units + 2 + (tD b.2).depth < cLine
    omega
  · have eo := ref_each ho
    subst eo
    have hp : (bs.mergeSort (PySem.W.dataLe false fun b => tD b.2)).Perm bs := List.mergeSort_perm _ _
    have hs2 : (bs.mergeSort (PySem.W.dataLe false fun b => tD b.2)).Pairwise (fun p q => leT p.2 q.2) := by
      have h := List.pairwise_mergeSort (le := PySem.W.dataLe false fun b : Addr × List Int => tD b.2) (fun p q r h1 h2 => by
        rw [dataLe_tup (fun b : Addr × List Int => b.2)] at *
        have := leT_trans (a := p.2) (b := q.2) (c := r.2) (by unfold leT; simpa using h1) (by unfold leT; simpa using h2)
        rw [show PySem.W.listLt r.2 p.2 = false from this]
        rfl) (fun p q => by
        rw [dataLe_tup (fun b : Addr × List Int => b.2), dataLe_tup (fun b : Addr × List Int => b.2)]
        rcases le_total9 q.2 p.2 with h | h <;> rw [h] <;> simp) bs
      refine List.Pairwise.imp (fun {p q} h => ?_) h
      rw [dataLe_tup (fun b : Addr × List Int => b.2)] at h
      show PySem.W.listLt q.2 p.2 = false
      simpa using h
    generalize bs.mergeSort (PySem.W.dataLe false fun b => tD b.2) = ms at *
    obtain ⟨e, he⟩ := PyProof.Rows.sortedAll_at s.heap (bs.map fun b => Value.ref b.1) (ms.map fun b => Value.ref b.1).toArray
    refine ⟨.ref (s.heap.objs.size + 1), upd H (s.heap.objs.size + 1) (.lst (ms.map fun b => V.ref b.1)), I.laid (t' := s.toks) (fun b u h => PyProof.Rows.sortedAll_old h) (Nat.le_succ _) ⟨?_, _, e, pairs_vals ms, he⟩, rfl, q _ (ms.map (·.2)) _ (hp.map _) (List.pairwise_map.mpr hs2) (I.hok.fresh (Nat.le_succ _)) (pairs_tps fun b hb => e3 b (hp.mem_iff.mp hb))⟩
    rw [List.length_map, hp.length_eq]
    exact hbl
theorem srtTQ {X : Cx} (K : PySem.W.Frag) (hu : X.A.units + 65 < cLine) (h : X.K = K := by rfl) : CallR X (.builtin "sorted") (rSortedT K) := by
  subst h
  exact cr_sortedT hu
theorem perm_leT : ∀ {us ts : List (List Int)}, us.Perm ts → us.Pairwise leT → ts.Pairwise leT → us = ts
  | [], [], _, _, _ => rfl
  | [], _ :: _, h, _, _ => by have := h.length_eq; cases this
  | _ :: _, [], h, _, _ => by have := h.length_eq; cases this
  | u :: us, t :: ts, h, h1, h2 => by
    obtain ⟨a1, a2⟩ := List.pairwise_cons.mp h1
    obtain ⟨b1, b2⟩ := List.pairwise_cons.mp h2
    have e : u = t := by
      rcases List.mem_cons.mp (h.mem_iff.mp List.mem_cons_self) with e | hu
      · exact e
      · rcases List.mem_cons.mp (h.mem_iff.mpr (List.mem_cons_self (a := t) (l := ts))) with e | ht
        · exact e.symm
        · exact leT_antisymm (a1 t ht) (b1 u hu)
    subst e
    rw [perm_leT h.cons_inv a2 b2]
namespace R
theorem srtT {K : PySem.W.Frag} {H : Hp} {Q : VK} {a : Addr} {vs : List V} {ts : List (List Int)} (h : SqL K H a vs) (ht : Tps K H vs ts) (hne : ∀ t ∈ ts, t ≠ [])
    (q : ∀ zs us H' p, us.Perm ts → us.Pairwise leT → Same H H' → H p = none → H' p = some (.lst zs) → Tps K H' zs us → Q (.ref p) H') : rSortedT K [.ref a] H Q :=
  ⟨a, vs, ts, rfl, h, ht, hne, fun zs us p h1 h2 np h3 => q zs us _ p h1 h2 (same_upd np) np upd_same (h3.same (same_upd np))⟩
end R

/-! ### lists of new tuples -/
namespace R
section
variable {K : PySem.W.Frag} {te : TE} {σ : L2.St} {H : Hp} {Q : VK}
theorem mapi_snoc {α : Type} (f : Nat → α) (i : Nat) : (List.range (i + 1)).map f = (List.range i).map f ++ [f i] := by
  rw [List.range_succ, List.map_append]
  rfl
/-- a comprehension over a tuple of any things, each gives a new tuple of ints -/
theorem lcTp {a : Addr} {xs : List V} {g : TG} {vs : List Nat} (f : Nat → List Int) (hl : xs.length ≤ 1000) (hT : SqT K H a xs)
    (hs : ∀ (i : Nat) (x : V) (H' : Hp) (Q' : VK), xs[i]? = some x → Same H H' → (∀ H2 p, Same H' H2 → SqT K H2 p ((f i).map V.int) → Q' (.ref p) H2) → g x (wipe σ vs) H' fun σ2 H2 => wipe σ2 vs = wipe σ vs ∧ te σ2 H2 Q')
    (hq : ∀ H' D ys, H' D = some (.lst ys) → Tps K H' ys ((List.range xs.length).map f) → Same H H' → H D = none → Q (.ref D) H') : LcJ (Itt K a) g tYes te vs σ H Q := by
  intro D nD
  refine lc_tup (K := K) (a := a) (xs := xs) (fun i H' => ∃ ys, H' D = some (.lst ys) ∧ ys.length = i ∧ Tps K H' ys ((List.range i).map f) ∧ Same H H') ⟨[], upd_same, rfl, .nil, same_upd nD⟩ (fun i H' _ h => same_seqT h.choose_spec.2.2.2 hT) (fun i x H5 hx ⟨ys, h1, h2, h3, h5⟩ => ?_) (fun H5 ⟨ys, h1, h2, h3, h5⟩ => ?_)
  · have hi : i < xs.length := (List.getElem?_eq_some_iff.mp hx).1
    refine hs i x H5 _ hx h5 (fun H2 p s2 sp => ⟨ys, s2 _ _ h1, ?_, ys ++ [.ref p], ?_, ?_, ?_, ?_⟩)
    · exact small1000 (by omega)
    · rw [upd_same]
    · rw [List.length_append, h2]
      rfl
    · rw [mapi_snoc]
      exact ((h3.same s2).kt fun c zs h => upd_seqT (s2 _ _ h1) h).snoc (upd_seqT (s2 _ _ h1) sp)
    · exact same_mut (h5.trans s2) nD
  · exact hq H5 D ys h1 h3 h5 nD
end
end R
/-! ### self changes of definite forms, classes -/
def unitsL (d : Int) : List (Int × Int) := if d = -3 then [(2, 0), (1, 1), (-1, 1), (-2, 0), (-1, -1), (1, -1)] else if d = -4 then [(2, 0), (0, 1), (-2, 0), (0, -1)] else [(2, 0), (-2, 0)]
def ucM (a b c t u : Int) : List Int := [(t - b * u) / 2, -c * u, a * u, (t + b * u) / 2]
def selfL (a b c : Int) : List (List Int) := (unitsL (dsc (a.fdiv (gL [a, b, c])) (b.fdiv (gL [a, b, c])) (c.fdiv (gL [a, b, c])))).map fun p => ucM (a.fdiv (gL [a, b, c])) (b.fdiv (gL [a, b, c])) (c.fdiv (gL [a, b, c])) p.1 p.2
/-- a place of the walk over a and b -/
def okC (d a b : Int) : Bool := decide ((b * b - d) % (4 * a) = 0) && (decide (RedD a b ((b * b - d) / (4 * a))) && decide (gL [a, b, (b * b - d) / (4 * a)] = 1))
def cellC (d a b : Int) : List (List Int) := if okC d a b then [[a, b, (b * b - d) / (4 * a)]] else []
def rowC (d a : Int) (n : Nat) : List (List Int) := (List.range n).flatMap fun (j : Nat) => cellC d a (1 - a + (j : Int))
def clsC (d : Int) (n : Nat) : List (List Int) := (List.range n).flatMap fun (i : Nat) => rowC d (1 + (i : Int)) (2 * (i + 1))
theorem rowC_succ (d a : Int) (n : Nat) : rowC d a (n + 1) = rowC d a n ++ cellC d a (1 - a + (n : Int)) := by
  unfold rowC
  rw [List.range_succ, List.flatMap_append]
  simp
theorem clsC_succ (d : Int) (n : Nat) : clsC d (n + 1) = clsC d n ++ rowC d (1 + (n : Int)) (2 * (n + 1)) := by
  unfold clsC
  rw [List.range_succ, List.flatMap_append]
  simp
theorem rowC_len (d a : Int) : ∀ n : Nat, (rowC d a n).length ≤ n
  | 0 => Nat.le_refl _
  | n + 1 => by
    rw [rowC_succ, List.length_append]
    have := rowC_len d a n
    have : (cellC d a (1 - a + (n : Int))).length ≤ 1 := by
      unfold cellC
      split <;> simp
    omega
theorem clsC_len (d : Int) : ∀ n : Nat, (clsC d n).length ≤ n * (n + 1)
  | 0 => Nat.le_refl _
  | n + 1 => by
    rw [clsC_succ, List.length_append]
    have := clsC_len d n
    have := rowC_len d (1 + (n : Int)) (2 * (n + 1))
    have e : (n + 1) * (n + 1 + 1) = n * (n + 1) + 2 * (n + 1) := by
      rw [Nat.add_mul, Nat.mul_add, Nat.mul_add]
      omega
    omega
/-- how many values of a there are -/
def manyC (d : Int) : Nat := (rootI ((-d) / 3)).toNat
theorem mem_rowC {d a : Int} {n : Nat} {t : List Int} (h : t ∈ rowC d a n) : ∃ j : Nat, j < n ∧ okC d a (1 - a + (j : Int)) = true ∧ t = [a, 1 - a + (j : Int), ((1 - a + (j : Int)) * (1 - a + (j : Int)) - d) / (4 * a)] := by
  unfold rowC at h
  obtain ⟨j, hj, ht⟩ := List.mem_flatMap.mp h
  unfold cellC at ht
  split at ht
  · rename_i hk
    exact ⟨j, List.mem_range.mp hj, hk, List.mem_singleton.mp ht⟩
  · cases ht
theorem lt_head {x y : Int} {xs ys : List Int} (h : x < y) : PySem.W.listLt (x :: xs) (y :: ys) = true := by
  unfold PySem.W.listLt
  rw [if_neg (by omega)]
  exact decide_eq_true h
theorem le_head {x y : Int} {xs ys : List Int} (h : x < y) : leT (x :: xs) (y :: ys) := by
  unfold leT PySem.W.listLt
  rw [if_neg (by omega)]
  exact decide_eq_false (show ¬ y < x by omega)
theorem le_tail {x : Int} {xs ys : List Int} (h : leT xs ys) : leT (x :: xs) (x :: ys) := by
  unfold leT at *
  unfold PySem.W.listLt
  rw [if_pos rfl]
  exact h
/-- the walk goes up -/
theorem rowC_sorted (d a : Int) : ∀ n : Nat, (rowC d a n).Pairwise leT
  | 0 => List.Pairwise.nil
  | n + 1 => by
    rw [rowC_succ]
    refine List.pairwise_append.mpr ⟨rowC_sorted d a n, ?_, fun x hx y hy => ?_⟩
    · unfold cellC
      split
      · exact List.pairwise_singleton _ _
      · exact List.Pairwise.nil
    · obtain ⟨j, hj, _, rfl⟩ := mem_rowC hx
      unfold cellC at hy
      split at hy
      · rw [List.mem_singleton.mp hy]
        exact le_tail (le_head (by omega))
      · cases hy
theorem clsC_sorted (d : Int) : ∀ n : Nat, (clsC d n).Pairwise leT ∧ ∀ t ∈ clsC d n, ∃ a x y : Int, t = [a, x, y] ∧ a < 1 + (n : Int)
  | 0 => ⟨List.Pairwise.nil, fun t h => by cases h⟩
  | n + 1 => by
    obtain ⟨h1, h2⟩ := clsC_sorted d n
    rw [clsC_succ]
    refine ⟨List.pairwise_append.mpr ⟨h1, rowC_sorted _ _ _, fun x hx y hy => ?_⟩, fun t ht => ?_⟩
    · obtain ⟨a, x1, x2, rfl, ha⟩ := h2 x hx
      obtain ⟨j, _, _, rfl⟩ := mem_rowC hy
      exact le_head ha
    · rcases List.mem_append.mp ht with h | h
      · obtain ⟨a, x1, x2, rfl, ha⟩ := h2 t h
        exact ⟨a, x1, x2, rfl, by omega⟩
      · obtain ⟨j, _, _, rfl⟩ := mem_rowC h
        exact ⟨_, _, _, rfl, by omega⟩

/-! ### a set of int tuples that grows -/
section
variable {P : Program} {w : World} {A : Around} {E : Value → Shared → Prop} {s : Shared}
abbrev stp (t : SetTable) (h : Int) (c : Nat) : SetTable.Probe := nth t.mask (runAt t.mask (SetTable.bits h % (t.mask + 1)) (SetTable.bits h)) c
theorem stp_add (t : SetTable) (h : Int) (c q : Nat) : nth t.mask (stp t h c) q = stp t h (c + q) := (nth_add t.mask c _ q).symm
theorem nth_clean (m : Nat) : ∀ (n : Nat) (p : SetTable.Probe), p.dummy = none → (nth m p n).dummy = none
  | 0, _, h => h
  | n + 1, p, h => nth_clean m n (adv m p) (by unfold adv; split <;> exact h)
theorem stp_clean (t : SetTable) (h : Int) (c : Nat) : (stp t h c).dummy = none := nth_clean _ c _ rfl
variable {a : Addr} {L : List (Addr × List Int)} {es : Array (Int × Value)} {ep : Nat} {t : SetTable}
/-- what stands at a place of the row -/
def HereT (P : Program) (w : World) (L : List (Addr × List Int)) (t : SetTable) (k : List Int) (c K : Nat) : Prop :=
  ∀ (i : Nat) (p : Addr × List Int), L[i]? = some p → p.2 = k → ∃ d, c ≤ d ∧ d < K ∧ t.place.toList[i]? = some (way t.mask (thash P w k) d)
/-- one candidate, looked at -/
theorem lookT (R : SetTR P w s.heap a L es ep t) {x : Addr} {k : List Int} (hx : IsT P w s.heap k x) (hu : A.units < cLine) {i j : Nat} {p : Addr × List Int} (hp : L[i]? = some p) (hj : t.place.toList[i]? = some j)
    {nx : SetTable.Probe} {f : Nat} {Q : SetFound → Shared → Prop} (yes : p.2 = k → Q (.there (some i)) s) (no : p.2 ≠ k → wpAny (model P w) A (setSearchFrom a (.ref x) (thash P w k) false f (some nx)) Q E s) :
    wpAny (model P w) A (searchRest a (.ref x) (thash P w k) false f es t j i nx) Q E s := by
  obtain ⟨o, ho, _, hd⟩ := R.ob
  have pt := R.tup p (List.mem_of_getElem? hp)
  unfold searchRest
  rw [R.entry hp]
  dsimp only
  refine wpAny_bind (wpAny_holding (wpAny_eqBool_tuple hu pt hx (wpAny_bind (wpAny_setState_of ho hd R.fits ?_))))
  dsimp only
  refine wp_if_neg (by simp) ?_
  try refine wpAny_bind (wpAny_pure ?_)
  rw [sameMem]
  dsimp only
  have live : t.slot j = .live i := slot_live R.tab.ris hj
  simp only [if_true, live, R.entry hp]
  refine wpAny_bind (wpAny_isSame_ref_self (wpAny_bind (wpAny_pure ?_)))
  simp only [if_true]
  by_cases e : p.2 = k
  · exact wp_if_pos (by simp [e]) (wpAny_pure (yes e))
  · exact wp_if_neg (by simp [e]) (no e)
/-- the search that asks alone, from the c-th step on -/
theorem seekT (R : SetTR P w s.heap a L es ep t) {x : Addr} {k : List Int} (hx : IsT P w s.heap k x) (hu : A.units < cLine) {K : Nat} (lim : K < 10 * SetTable.turns t.mask)
    (fr : way t.mask (thash P w k) K ∉ t.place.toList) (bs : ∀ c, c < K → way t.mask (thash P w k) c ∈ t.place.toList) {Q : SetFound → Shared → Prop}
    (yes : k ∈ L.map (·.2) → ∀ i, Q (.there (some i)) s) (no : k ∉ L.map (·.2) → ∀ j, Q (.free j false) s) : ∀ (f c : Nat) (st : Option SetTable.Probe), st.getD (t.probeStart (thash P w k)) = stp t (thash P w k) c →
      c ≤ K → K - c < f → HereT P w L t k c K → wpAny (model P w) A (setSearchFrom a (.ref x) (thash P w k) false f st) Q E s
  | 0, _, _, _, _, z, _ => absurd z (Nat.not_lt_zero _)
  | f + 1, c, st, est, cK, z, here => by
    obtain ⟨o, ho, _, hd⟩ := R.ob
    rw [setSearchFrom_succ]
    refine wpAny_bind (wpAny_setState_of ho hd R.fits ?_)
    dsimp only
    refine wp_if_neg R.gw ?_
    try refine wpAny_bind (wpAny_pure ?_)
    have st1 : ∀ q, (nth t.mask (stp t (thash P w k) c) q).j = way t.mask (thash P w k) (c + q) := fun q => congrArg SetTable.Probe.j (stp_add t _ c q)
    have hs : ∀ (i : Nat) (p : Addr × List Int), L[i]? = some p → (fun i => (es[i]?.map (·.1)).getD 0) i = thash P w p.2 := fun i p e => by
      show (es[i]?.map (·.1)).getD 0 = _
      rw [R.entry e]
      rfl
    have last : way t.mask (thash P w k) (c + (K - c)) = way t.mask (thash P w k) K := by rw [show c + (K - c) = K by omega]
    rcases go_spec t R.tab.ris R.tab.dm (fun i => (es[i]?.map (·.1)).getD 0) (thash P w k) (10 * SetTable.turns t.mask) (K - c) (stp t (thash P w k) c) (stp_clean t _ c) (by omega)
      (fun q hq => (st1 q).symm ▸ bs (c + q) (by omega)) (by rw [st1, last]; exact fr) with ⟨q, i, qK, pl, _, none', pr⟩ | ⟨none', pr⟩
    · rw [st1] at pl
      have at' : t.probe (fun i => (es[i]?.map (·.1)).getD 0) (thash P w k) (st.getD (t.probeStart (thash P w k))) = some (.candidate (way t.mask (thash P w k) (c + q)) i (stp t (thash P w k) (c + (q + 1)))) := by
        rw [est, ← st1, ← stp_add]
        exact pr
      rw [at']
      dsimp only
      have iL : i < L.length := by
        have i1 := (List.getElem?_eq_some_iff.mp pl).1
        have i2 := R.tab.sz
        rw [List.length_map] at i2
        rw [Array.length_toList] at i1
        omega
      have hp : L[i]? = some L[i] := List.getElem?_eq_getElem iL
      generalize L[i] = p at hp
      have go : wpAny (model P w) A (searchRest a (.ref x) (thash P w k) false f es t (way t.mask (thash P w k) (c + q)) i (stp t (thash P w k) (c + (q + 1)))) Q E s := by
        refine lookT R hx hu hp pl (fun e => yes (List.mem_map.mpr ⟨p, List.mem_of_getElem? hp, e⟩) i) fun ne => ?_
        refine seekT R hx hu lim fr bs yes no f (c + (q + 1)) _ rfl (by omega) (by omega) fun i0 p0 l0 k0 => ?_
        obtain ⟨d, d1, d2, d3⟩ := here i0 p0 l0 k0
        refine ⟨d, Nat.lt_of_not_le fun (dq : d ≤ c + q) => ?_, d2, d3⟩
        rcases Nat.lt_or_eq_of_le dq with y | y
        · exact none' (d - c) i0 (by omega) (by rw [st1, show c + (d - c) = d by omega]; exact d3) ((hs i0 p0 l0).trans (congrArg (thash P w) k0))
        · rw [y] at d3
          have s0 : i = i0 := by
            have u := (slot_live R.tab.ris pl).symm.trans (slot_live R.tab.ris d3)
            injection u
          rw [← s0, hp] at l0
          exact ne ((congrArg Prod.snd (Option.some.inj l0)).trans k0)
      cases hl : t.led with
      | true =>
        refine wp_if_neg (by decide) ?_
        try refine wpAny_bind (wpAny_pure ?_)
        exact go
      | false =>
        refine wp_if_pos (by decide) (wpAny_bind (seen_tup hx (fun y hy => ?_) ?_))
        · obtain ⟨e, he, ee⟩ := List.mem_map.mp hy
          have e1 : e ∈ es.toList := by
            have e0 : e ∈ es ∧ e.1 = thash P w k := by simpa using he
            simpa using e0.1
          rw [R.rows] at e1
          obtain ⟨p2, m2, e2⟩ := List.mem_map.mp e1
          exact ⟨p2.2, p2.1, by rw [← ee, ← e2], R.tup p2 m2⟩
        · refine wp_if_neg (by decide) ?_
          try refine wpAny_bind (wpAny_pure ?_)
          exact go
    · have at' : t.probe (fun i => (es[i]?.map (·.1)).getD 0) (thash P w k) (st.getD (t.probeStart (thash P w k))) = some (.empty (way t.mask (thash P w k) (c + (K - c))) none) := by
        rw [est, ← st1]
        exact pr
      rw [at']
      dsimp only
      refine wpAny_pure (no (fun m => ?_) _)
      obtain ⟨p0, m0, k0⟩ := List.mem_map.mp m
      obtain ⟨i0, l0, e0⟩ := List.getElem_of_mem m0
      have l1 : L[i0]? = some p0 := by rw [List.getElem?_eq_getElem l0, e0]
      obtain ⟨d, d1, d2, d3⟩ := here i0 p0 l1 k0
      exact none' (d - c) i0 (by omega) (by rw [st1, show c + (d - c) = d by omega]; exact d3) ((hs i0 p0 l1).trans (congrArg (thash P w) k0))
theorem findT (R : SetTR P w s.heap a L es ep t) {x : Addr} {k : List Int} (hx : IsT P w s.heap k x) (hu : A.units < cLine) {Q : Option Nat → Shared → Prop}
    (h : ∀ r : Option Nat, r.isSome = decide (k ∈ L.map (·.2)) → Q r s) : wpAny (model P w) A (setFind a (.ref x) (thash P w k)) Q E s := by
  obtain ⟨o, ho, _, hd⟩ := R.ob
  have rm := R.room
  obtain ⟨K, lim, fr, bs⟩ := R.tab.first (by rw [List.length_map]; omega) (thash P w k)
  have big : K < 100000 := by
    have z : 10 * SetTable.turns t.mask ≤ 1420 := by
      unfold SetTable.turns
      rcases R.tab.mok with e | e | e <;> omega
    omega
  unfold setFind setFindIn
  refine wpAny_bind (wpAny_setState_of ho hd R.fits ?_)
  dsimp only
  refine wp_if_neg (by simp [byScan, Value.scannable]) ?_
  try refine wpAny_bind (wpAny_pure ?_)
  unfold setSearch
  refine wpAny_bind (seekT R hx hu lim fr bs (fun m i => ?_) (fun m j => ?_) 100000 0 none rfl (Nat.zero_le _) (by omega) fun i p l e => ?_)
  · exact wpAny_pure (h _ (by rw [decide_eq_true m]; rfl))
  · exact wpAny_pure (h _ (by rw [decide_eq_false m]; rfl))
  · have l1 : (L.map fun p => thash P w p.2)[i]? = some (thash P w k) := by
      rw [List.getElem?_map, l, ← e]
      rfl
    have iL : i < t.place.toList.length := by
      have i1 := (List.getElem?_eq_some_iff.mp l).1
      have i2 := R.tab.sz
      rw [List.length_map] at i2
      rw [Array.length_toList]
      omega
    have l2 := List.getElem?_eq_getElem iL
    obtain ⟨d, d1, d2⟩ := R.tab.before fr l1 l2
    exact ⟨d, Nat.zero_le _, d1, by rw [l2, d2]⟩
theorem setTR_ty (R : SetTR P w s.heap a L es ep t) : s.TypeIs (.ref a) "set" := by
  obtain ⟨o, ho, hex, _⟩ := R.ob
  exact ⟨o, ho, hex.1⟩
theorem setTR_bare (R : SetTR P w s.heap a L es ep t) : ∀ b, Value.ref a = .ref b → ∃ o, s.heap.get? b = some o ∧ o.dict = none := by
  intro b e
  injection e with e
  subst e
  obtain ⟨o, ho, hex, _⟩ := R.ob
  exact ⟨o, ho, hex.2.1⟩
theorem containsT (R : SetTR P w s.heap a L es ep t) {x : Addr} {k : List Int} (hx : IsT P w s.heap k x) (hu : A.units + 64 < cLine) {Q : Bool → Shared → Prop}
    (h : ∀ tk, Q (decide (k ∈ L.map (·.2))) { s with toks := tk }) : wpAny (model P w) A (contains (.ref a) (.ref x)) Q E s := by
  have T := (setTR_ty R)
  unfold contains
  try with_reducible refine wpAny_holding ?_
  refine wpAny_bind (wpAny_specialOf T F.slot_set_contains.lookup ?_)
  refine wp_if_neg (by rw [beq_builtin_none]; exact Bool.false_ne_true) ?_
  refine wpAny_bind (wpAny_callSpecialUnlessNone?_slot (name := Str.ofString "__contains__") T F.slot_set_contains (wpAny_call_entry F.slot_set_contains T entry_set_contains ?_ (F.args_set_contains_2 _ _)))
  unfold Builtin.«frozenset.__contains__» Builtin.Frozenset.oneOther
  simp only [List.isEmpty_nil, bind_assoc]
  unfold Builtin.Frozenset.addrOf Builtin.Frozenset.withSetAsKey setContains
  repeat (first | refine wpAny_bind (wpAny_pure ?_) | (try dsimp only); refine wpAny_bind (wpAny_pure ?_))
  try dsimp only
  refine wpAny_bind (wpAny_tryCatch (wpAny_holding ?_))
  refine wpAny_bind (wpAny_pyHash_tuple (by show _ < cLine; simp; omega) hx ?_)
  refine wpAny_bind (findT (s := { s with toks := s.toks + (k.length + 1) }) R hx (by simp; omega) fun r hr => ?_)
  refine wpAny_pure ?_
  show wpAny _ _ (ret (Value.bool r.isSome)) _ _ _
  rw [hr]
  exact wpAny_pure ⟨_, rfl, wpAny_truthy_bool (h _)⟩
theorem addT (R : SetTR P w s.heap a L es ep t) {x : Addr} {k : List Int} (hx : IsT P w s.heap k x) (hu : A.units + 64 < cLine) (few : L.length + 1 < 64) {Q : Value → Shared → Prop}
    (h : ∀ h' tk L' es' ep' t', Heap.SameBut a s.heap h' → SetTR P w h' a L' es' ep' t' → (∀ y : List Int, y ∈ L'.map (·.2) ↔ y = k ∨ y ∈ L.map (·.2)) → (∀ p ∈ L', p = (x, k) ∨ p ∈ L) → L'.length ≤ L.length + 1 → Q .none { s with heap := h', toks := tk }) :
    wpAny (model P w) A (call (.builtin "set.add") [.ref a, .ref x]) Q E s := by
  refine wpAny_call_entry F.slot_set_add (setTR_ty R) F.entry_set_add ?_ (F.args_set_add_2 _ _)
  unfold Builtin.«set.add» Builtin.Frozenset.oneOther
  simp only [List.isEmpty_nil, bind_assoc]
  unfold Builtin.Frozenset.addrOf setAdd
  repeat (first | refine wpAny_bind (wpAny_pure ?_) | (try dsimp only); refine wpAny_bind (wpAny_pure ?_))
  try dsimp only
  refine wpAny_bind (wpAny_holding (wpAny_bind (wpAny_pyHash_tuple (by show _ < cLine; simp; omega) hx ?_)))
  refine add_at (s := { s with toks := s.toks + (k.length + 1) }) R hx (by show _ < cLine; simp; omega) few fun b h' L' es' ep' t' sb R' old new => ?_
  refine wpAny_pure ⟨_, rfl, h h' _ L' es' ep' t' sb R' (fun y => ?_) (fun p hp => ?_) ?_⟩
  · by_cases m : k ∈ L.map (·.2)
    · rw [old m]
      exact ⟨.inr, fun z => z.elim (fun e => e ▸ m) id⟩
    · rw [((new m).map (·.2)).mem_iff, List.map_cons, List.mem_cons]
  · by_cases m : k ∈ L.map (·.2)
    · rw [old m] at hp
      exact .inr hp
    · exact List.mem_cons.mp ((new m).mem_iff.mp hp)
  · by_cases m : k ∈ L.map (·.2)
    · rw [old m]
      omega
    · rw [(new m).length_eq, List.length_cons]
      omega
end
section
variable {X : Cx}
theorem setT_get {pins : List (Addr × Obj)} {σ : L2.St} {H : Hp} {s : Shared} {a : Addr} {L : List (Addr × List Int)} (I : Inv X pins σ H s) (e : H a = some (SetTO X.prog X.w a L)) (tk : ∀ p ∈ L, SqT X.K H p.1 (p.2.map V.int)) :
    ∃ es ep t, SetTR X.prog X.w s.heap a L es ep t := (show SetT0 X.prog X.w s.heap a L from (I.hok a _ e).1).full fun p m => I.isT (tk p m)
/-- set() -/
def rSet0T (P : Program) (w : World) : List V → Hp → VK → Prop := fun xs H Q => xs = [] ∧ ∀ p, H p = none → Q (.ref p) (upd H p (SetTO P w p []))
theorem cr_set0T : CallR X (.type "set") (rSet0T X.prog X.w) := by
  intro pins s σ H xs us Q I r ⟨e, q⟩
  subst e
  cases r
  refine setR_new fun _ => ⟨.ref s.heap.objs.size, upd H s.heap.objs.size (SetTO X.prog X.w s.heap.objs.size []), ?_, rfl, q _ (I.hok.fresh (Nat.le_refl _))⟩
  exact I.laid (t' := s.toks) (fun b u e => Heap.get?_push_of_some _ e) (Nat.le_refl _) (setTO_new (setTR_fresh (Heap.get?_push_size _ rfl)).t0)
/-- found.add(k) -/
def rSAddT (K : PySem.W.Frag) (P : Program) (w : World) : V → List V → Hp → VK → Prop := fun x xs H Q => ∃ (a b : Addr) (k : List Int) (L : List (Addr × List Int)), x = V.ref a ∧ xs = [V.ref b] ∧ H a = some (SetTO P w a L) ∧
  (∀ p ∈ L, SqT K H p.1 (p.2.map V.int)) ∧ SqT K H b (k.map V.int) ∧ L.length + 1 < 64 ∧
  ∀ L' : List (Addr × List Int), (∀ y : List Int, y ∈ L'.map (·.2) ↔ y = k ∨ y ∈ L.map (·.2)) → (∀ p ∈ L', p = (b, k) ∨ p ∈ L) → L'.length ≤ L.length + 1 → (L'.map (·.2)).Nodup → Q .non (upd H a (SetTO P w a L'))
theorem mt_saddT (hu : X.A.units + 64 < cLine) : MtR X "set.add" (rSAddT X.K X.prog X.w) := by
  intro pins s σ H x xs v us Q I rx rxs h
  obtain ⟨a, b, k, L, rfl, rfl, ea, tk, kb, few, q⟩ := h
  obtain ⟨es, ep, t, R⟩ := setT_get I ea tk
  cases rx
  rw [Vals.ref1 rxs]
  refine addT R (I.isT kb) hu few fun h' tk' L' es' ep' t' sb R' m1 m2 m3 => ?_
  have he : ∃ u, h'.get? a = some u := by
    have ⟨o, ho, _⟩ := R'.ob
    exact ⟨o, ho⟩
  exact ⟨.non, upd H a (SetTO X.prog X.w a L'), I.write (e := a) (t' := tk') (by rw [ea]; trivial) (.inl rfl) (fun b u nb hu => (sb.2 b nb).trans hu) he (setTO_new R'.t0), rfl, q L' m1 m2 m3 R'.nd⟩
def tSAddT (K : PySem.W.Frag) (P : Program) (w : World) (to : TE) (t : TA) : TE := fun σ H Q => to σ H fun x H1 => (∃ a L, x = V.ref a ∧ H1 a = some (SetTO P w a L) ∧ ∀ p ∈ L, SqT K H1 p.1 (p.2.map V.int)) ∧ t σ H1 fun xs H2 => rSAddT K P w x xs H2 Q
variable {o e : Expr} {es : List Expr} {to : TE} {t : TA} {apos cpos : Pos}
theorem pe_saddT (hu : X.A.units + 64 < cLine) (ho : PE X o to) (ha : PA X (e :: es) t) (b1 : attributeBase o "add" X.env (eval o X.env) = eval o X.env := by rfl)
    (b2 : ((backTo cpos (starEach (e :: es) X.env)).all (fun x => !x.1) && (backToKw cpos (keywordEach [] X.env)).all (fun x => x.1.isSome) && decide ((e :: es).length + ([] : List Keyword).length + (if ([] : List Keyword).isEmpty then 0 else 1) < 30)) = true := by rfl)
    (b3 : (apos.endLine == cpos.line) = true := by rfl) (b4 : starEach (e :: es) X.env = (false, eval e X.env) :: starEach es X.env := by rfl) (b5 : (backTo cpos (starEach es X.env)).any (·.1) = false := by rfl) :
    PE X (.Call (.Attribute o "add" apos) (e :: es) [] cpos) (tSAddT X.K X.prog X.w to t) := by
  refine ⟨fun pins s σ H Q I h => ?_⟩
  refine wpAny_Call_method_late b1 b2 b3 rfl (thn (ho.run pins s σ H _ I h) fun v s1 z => ?_)
  obtain ⟨x, H1, I1, r1, ⟨a, L, ex, ea, tk⟩, q1⟩ := z
  subst ex
  obtain ⟨es1, ep1, t1, R⟩ := setT_get I1 ea tk
  cases r1
  refine ⟨"set", "set.add", F.plainAttrs_set, F.slot_set_add, F.type_set_add, setTR_ty R, setTR_bare R, ?_⟩
  have hA := ha.run cpos pins s1 σ H1 _ I1 q1
  rw [b4] at hA ⊢
  refine Calls.callWith_builtin (by show (false || (backTo cpos (starEach es X.env)).any (·.1)) = false; rw [b5]; rfl) (Calls.evalArgs_plain ?_)
  exact thn hA fun us s2 ⟨vs, H2, I2, r2, q2⟩ => mt_saddT hu pins s2 σ H2 (.ref a) vs (.ref a) us Q I2 rfl r2 q2
/-- k in found, k not in found -/
def rSInT (K : PySem.W.Frag) (P : Program) (w : World) (neg : Bool) : V → V → Hp → VK → Prop := fun x y H Q => ∃ (b a : Addr) (k : List Int) (L : List (Addr × List Int)), x = V.ref b ∧ y = V.ref a ∧ H a = some (SetTO P w a L) ∧
  (∀ p ∈ L, SqT K H p.1 (p.2.map V.int)) ∧ SqT K H b (k.map V.int) ∧ Q (.bl (if neg then !decide (k ∈ L.map (·.2)) else decide (k ∈ L.map (·.2)))) H
theorem or_sinT (hu : X.A.units + 65 < cLine) : OpR X (compareOp .In) (rSInT X.K X.prog X.w false) := by
  intro pins s σ H x y v u Q I rx ry h
  obtain ⟨b, a, k, L, rfl, rfl, ea, tk, kb, q⟩ := h
  obtain ⟨es, ep, t, R⟩ := setT_get I ea tk
  cases rx
  cases ry
  show wpAny (model X.prog X.w) X.A (do return Value.bool (← contains (.ref a) (.ref b))) _ _ s
  exact wpAny_bind (containsT R (I.isT kb) (by omega) fun tk' => wpAny_pure ⟨.bl (decide (k ∈ L.map Prod.snd)), H, I.tok _, rfl, q⟩)
theorem or_snotinT (hu : X.A.units + 65 < cLine) : OpR X (compareOp .NotIn) (rSInT X.K X.prog X.w true) := by
  intro pins s σ H x y v u Q I rx ry h
  obtain ⟨b, a, k, L, rfl, rfl, ea, tk, kb, q⟩ := h
  obtain ⟨es, ep, t, R⟩ := setT_get I ea tk
  cases rx
  cases ry
  show wpAny (model X.prog X.w) X.A (do return Value.bool (!(← contains (.ref a) (.ref b)))) _ _ s
  exact wpAny_bind (containsT R (I.isT kb) (by omega) fun tk' => wpAny_pure ⟨.bl (!decide (k ∈ L.map Prod.snd)), H, I.tok _, rfl, q⟩)
end
section
variable {X : Cx} {P : Program} {w : World}
theorem set0TQ (P : Program) (w : World) (h1 : X.prog = P := by rfl) (h2 : X.w = w := by rfl) : CallR X (.type "set") (rSet0T P w) := by
  subst h1 h2
  exact cr_set0T
theorem inSTQ (K : PySem.W.Frag) (P : Program) (w : World) (hu : X.A.units + 65 < cLine) (h0 : X.K = K := by rfl) (h1 : X.prog = P := by rfl) (h2 : X.w = w := by rfl) : OpR X (compareOp .In) (rSInT K P w false) := by
  subst h0 h1 h2
  exact or_sinT hu
theorem notInSTQ (K : PySem.W.Frag) (P : Program) (w : World) (hu : X.A.units + 65 < cLine) (h0 : X.K = K := by rfl) (h1 : X.prog = P := by rfl) (h2 : X.w = w := by rfl) : OpR X (compareOp .NotIn) (rSInT K P w true) := by
  subst h0 h1 h2
  exact or_snotinT hu
variable {o e : Expr} {es : List Expr} {to : TE} {t : TA} {apos cpos : Pos}
theorem pe_saddTQ (K : PySem.W.Frag) (P : Program) (w : World) (hu : X.A.units + 64 < cLine) (ho : PE X o to) (ha : PA X (e :: es) t) (b1 : attributeBase o "add" X.env (eval o X.env) = eval o X.env := by rfl)
    (b2 : ((backTo cpos (starEach (e :: es) X.env)).all (fun x => !x.1) && (backToKw cpos (keywordEach [] X.env)).all (fun x => x.1.isSome) && decide ((e :: es).length + ([] : List Keyword).length + (if ([] : List Keyword).isEmpty then 0 else 1) < 30)) = true := by rfl)
    (b3 : (apos.endLine == cpos.line) = true := by rfl) (b4 : starEach (e :: es) X.env = (false, eval e X.env) :: starEach es X.env := by rfl) (b5 : (backTo cpos (starEach es X.env)).any (·.1) = false := by rfl)
    (h0 : X.K = K := by rfl) (h1 : X.prog = P := by rfl) (h2 : X.w = w := by rfl) : PE X (.Call (.Attribute o "add" apos) (e :: es) [] cpos) (tSAddT K P w to t) := by
  subst h0 h1 h2
  exact pe_saddT hu ho ha b1 b2 b3 b4 b5
end
namespace R
variable {K : PySem.W.Frag} {P : Program} {w : World} {σ : L2.St} {H : Hp} {Q : VK}
theorem set0 (q : ∀ H' p, Same H H' → H p = none → H' p = some (SetTO P w p []) → Q (.ref p) H') : rSet0T P w [] H Q := ⟨rfl, fun p n => q _ p (same_upd n) n upd_same⟩
theorem saddE {to : TE} {t : TA} (h : to σ H fun x H1 => (∃ a L, x = V.ref a ∧ H1 a = some (SetTO P w a L) ∧ ∀ p ∈ L, SqT K H1 p.1 (p.2.map V.int)) ∧ t σ H1 fun xs H2 => rSAddT K P w x xs H2 Q) : tSAddT K P w to t σ H Q := h
theorem saddO {a : Addr} {L : List (Addr × List Int)} {C : Prop} (e : H a = some (SetTO P w a L)) (tk : ∀ p ∈ L, SqT K H p.1 (p.2.map V.int)) (h : C) :
    (∃ a' L, V.ref a = V.ref a' ∧ H a' = some (SetTO P w a' L) ∧ ∀ p ∈ L, SqT K H p.1 (p.2.map V.int)) ∧ C := ⟨⟨a, L, rfl, e, tk⟩, h⟩
theorem sadd {a b : Addr} {k : List Int} {L : List (Addr × List Int)} (ea : H a = some (SetTO P w a L)) (tk : ∀ p ∈ L, SqT K H p.1 (p.2.map V.int)) (kb : SqT K H b (k.map V.int)) (few : L.length + 1 < 64)
    (q : ∀ L' H', H' = upd H a (SetTO P w a L') → H' a = some (SetTO P w a L') → (∀ y : List Int, y ∈ L'.map (·.2) ↔ y = k ∨ y ∈ L.map (·.2)) → (L'.map (·.2)).Nodup → (∀ p ∈ L', SqT K H' p.1 (p.2.map V.int)) → Q .non H') : rSAddT K P w (.ref a) [.ref b] H Q := by
  refine ⟨a, b, k, L, rfl, rfl, ea, tk, kb, few, fun L' m1 m2 m3 nd => q L' _ rfl upd_same m1 nd fun p hp => ?_⟩
  have hq : SqT K H p.1 (p.2.map V.int) := by
    rcases m2 p hp with rfl | z
    · exact kb
    · exact tk p z
  rcases hq with (h | ⟨o, h⟩) | h
  · refine .inl (.inl ?_)
    rw [upd_ne (ne_of h ea (by intro z; cases z))]
    exact h
  · refine .inl (.inr ⟨o, ?_⟩)
    rw [upd_ne (ne_of h ea (by intro z; cases z))]
    exact h
  · exact .inr h
theorem notInST {a b : Addr} {k : List Int} {L : List (Addr × List Int)} (ea : H a = some (SetTO P w a L)) (tk : ∀ p ∈ L, SqT K H p.1 (p.2.map V.int)) (kb : SqT K H b (k.map V.int)) (q : Q (.bl (!decide (k ∈ L.map (·.2)))) H) : rSInT K P w true (.ref b) (.ref a) H Q :=
  ⟨b, a, k, L, rfl, rfl, ea, tk, kb, q⟩
end R
theorem kt_set {K : PySem.W.Frag} {P : Program} {w : World} {H : Hp} {a : Addr} {L : List (Addr × List Int)} {o : HO} (e : H a = some (SetTO P w a L)) : KT K H (upd H a o) := fun c zs h => by
  rcases h with (h | ⟨o', h⟩) | h
  · refine .inl (.inl ?_)
    rw [upd_ne (ne_of h e (by intro z; cases z))]
    exact h
  · refine .inl (.inr ⟨o', ?_⟩)
    rw [upd_ne (ne_of h e (by intro z; cases z))]
    exact h
  · exact .inr h

/-! ### lists that go up -/
def Asc (ts : List (List Int)) : Prop := ts.Pairwise leT ∧ ts.Nodup
theorem asc_uniq {ts us : List (List Int)} (h1 : Asc ts) (h2 : Asc us) (m : ∀ z, z ∈ ts ↔ z ∈ us) : ts = us :=
  perm_leT ((List.perm_ext_iff_of_nodup h1.2 h2.2).mpr m) h1.1 h2.1
def ltT (t u : List Int) : Prop := PySem.W.listLt t u = true
theorem ltT_leT {t u : List Int} (h : ltT t u) : leT t u := by
  rcases le_total9 u t with z | z
  · exact z
  · unfold ltT at h
    rw [h] at z
    cases z
theorem ltT_ne {t u : List Int} (h : ltT t u) : t ≠ u := by
  rintro rfl
  have := ord_irr (PySem.W.Tup.mk t)
  exact absurd (show PySem.W.listLt t t = true from h) (by rw [show PySem.W.listLt t t = false from this]; decide)
theorem ltT_of {t u : List Int} (h : leT t u) (n : t ≠ u) : ltT t u := by
  unfold ltT
  cases e : PySem.W.listLt t u
  · exact absurd (ints_total t u e h) n
  · rfl
theorem lt_tail {x : Int} {xs ys : List Int} (h : ltT xs ys) : ltT (x :: xs) (x :: ys) := by
  unfold ltT at *
  unfold PySem.W.listLt
  rw [if_pos rfl]
  exact h
theorem asc_of {ts : List (List Int)} (h : ts.Pairwise ltT) : Asc ts := ⟨h.imp ltT_leT, h.imp ltT_ne⟩
theorem asc_snoc {ts : List (List Int)} {t : List Int} (h : Asc ts) (k : ∀ x ∈ ts, ltT x t) : Asc (ts ++ [t]) := by
  refine ⟨List.pairwise_append.mpr ⟨h.1, List.pairwise_singleton _ _, fun x hx y hy => ?_⟩, List.nodup_append.mpr ⟨h.2, List.pairwise_singleton _ _, fun x hx y hy => ?_⟩⟩
  · rw [List.mem_singleton.mp hy]
    exact ltT_leT (k x hx)
  · rw [List.mem_singleton.mp hy]
    exact ltT_ne (k x hx)
/-! ### content of forms of a class -/
theorem dv_act {k a b c p q r s : Int} (ha : k ∣ a) (hb : k ∣ b) (hc : k ∣ c) : k ∣ fA a b c p r ∧ k ∣ fB a b c p q r s ∧ k ∣ fA a b c q s := by
  obtain ⟨x, rfl⟩ := ha
  obtain ⟨y, rfl⟩ := hb
  obtain ⟨z, rfl⟩ := hc
  refine ⟨⟨fA x y z p r, ?_⟩, ⟨fB x y z p q r s, ?_⟩, ⟨fA x y z q s, ?_⟩⟩ <;> (try unfold fA) <;> (try unfold fB) <;> grind
theorem gL_dv {a b c : Int} : ((gL [a, b, c]) ∣ a) ∧ (gL [a, b, c] ∣ b) ∧ (gL [a, b, c] ∣ c) := by
  rw [gL_three]
  have h := Nat.gcd_dvd_left (Nat.gcd a.natAbs b.natAbs) c.natAbs
  exact ⟨Int.ofNat_dvd_left.mpr (Nat.dvd_trans h (Nat.gcd_dvd_left _ _)), Int.ofNat_dvd_left.mpr (Nat.dvd_trans h (Nat.gcd_dvd_right _ _)), Int.ofNat_dvd_left.mpr (Nat.gcd_dvd_right _ _)⟩
theorem gL_max {a b c k : Int} (ha : k ∣ a) (hb : k ∣ b) (hc : k ∣ c) : k ∣ gL [a, b, c] := by
  rw [gL_three]
  refine Int.ofNat_dvd_right.mpr (Nat.dvd_gcd (Nat.dvd_gcd ?_ ?_) ?_)
  · exact Int.natAbs_dvd_natAbs.mpr ha
  · exact Int.natAbs_dvd_natAbs.mpr hb
  · exact Int.natAbs_dvd_natAbs.mpr hc
theorem gL_gI (a b c : Int) : gI (gI a b) c = gL [a, b, c] := by
  rw [gL_three]
  rfl
theorem gL_nn (a b c : Int) : 0 ≤ gL [a, b, c] := by
  rw [gL_three]
  omega
/-- the content of a form -/
def ctF (f : Fm) : Int := gL (fL f)
theorem ct_act {f : Fm} {p q r s : Int} (d : p * s - q * r = 1) (h : ctF f = 1) : ctF (actF f p q r s) = 1 := by
  have e := actF_inv f d
  obtain ⟨a, b, c⟩ := f
  generalize hg : actF (a, b, c) p q r s = g at *
  obtain ⟨x, y, z⟩ := g
  obtain ⟨d1, d2, d3⟩ := gL_dv (a := x) (b := y) (c := z)
  obtain ⟨e1, e2, e3⟩ := dv_act (p := s) (q := -q) (r := -r) (s := p) d1 d2 d3
  have u1 : fA x y z s (-r) = a := congrArg (fun f : Fm => f.1) e
  have u2 : fB x y z s (-q) (-r) p = b := congrArg (fun f : Fm => f.2.1) e
  have u3 : fA x y z (-q) p = c := congrArg (fun f : Fm => f.2.2) e
  rw [u1] at e1
  rw [u2] at e2
  rw [u3] at e3
  have k := gL_max e1 e2 e3
  have h : gL [a, b, c] = 1 := h
  rw [h] at k
  have n := gL_nn x y z
  show gL [x, y, z] = 1
  exact Int.eq_one_of_dvd_one n k
theorem ct_rho {D : Int} {f : Fm} (F : IFf D f) (R : RDf D f) (h : ctF f = 1) (i : Nat) : ctF (rhoN D i f) = 1 := by
  obtain ⟨m1, m2, _⟩ := mN_ok F R i
  rw [m2]
  generalize mN D f i = m at *
  obtain ⟨p, q, r, s⟩ := m
  exact ct_act (show p * s - q * r = 1 from m1) h
/-! ### reduced forms of a discriminant above 0 -/
def RedR (r a b : Int) : Prop := 0 < b ∧ b ≤ r ∧ 2 * (a.natAbs : Int) - b ≤ r ∧ r < 2 * (a.natAbs : Int) + b
instance {r a b : Int} : Decidable (RedR r a b) := by unfold RedR; infer_instance
def okI (d r a b : Int) : Bool := decide (a ≠ 0) && (decide ((b * b - d) % (4 * a) = 0) && (decide (RedR r a b) && decide (gL [a, b, (b * b - d).fdiv (4 * a)] = 1)))
def cellI (d r a b : Int) : List (List Int) := if okI d r a b then [[a, b, (b * b - d).fdiv (4 * a)]] else []
def rowI (d r a : Int) (n : Nat) : List (List Int) := (List.range n).flatMap fun (j : Nat) => cellI d r a (1 + (j : Int))
def redI (d r : Int) (n : Nat) : List (List Int) := (List.range n).flatMap fun (i : Nat) => rowI d r (-r + (i : Int)) r.toNat
theorem rowI_succ (d r a : Int) (n : Nat) : rowI d r a (n + 1) = rowI d r a n ++ cellI d r a (1 + (n : Int)) := by
  unfold rowI
  rw [List.range_succ, List.flatMap_append]
  simp
theorem redI_succ (d r : Int) (n : Nat) : redI d r (n + 1) = redI d r n ++ rowI d r (-r + (n : Int)) r.toNat := by
  unfold redI
  rw [List.range_succ, List.flatMap_append]
  simp
theorem mem_cellI {d r a b : Int} {t : List Int} (h : t ∈ cellI d r a b) : okI d r a b = true ∧ t = [a, b, (b * b - d).fdiv (4 * a)] := by
  unfold cellI at h
  split at h
  · rename_i k
    exact ⟨k, List.mem_singleton.mp h⟩
  · cases h
theorem rowI_len (d r a : Int) : ∀ n : Nat, (rowI d r a n).length ≤ n
  | 0 => Nat.le_refl _
  | n + 1 => by
    rw [rowI_succ, List.length_append]
    have := rowI_len d r a n
    have : (cellI d r a (1 + (n : Int))).length ≤ 1 := by
      unfold cellI
      split <;> simp
    omega
theorem redI_len (d r : Int) : ∀ n : Nat, (redI d r n).length ≤ n * r.toNat
  | 0 => Nat.zero_le _
  | n + 1 => by
    rw [redI_succ, List.length_append, Nat.succ_mul]
    have := redI_len d r n
    have := rowI_len d r (-r + (n : Int)) r.toNat
    omega
theorem rowI_up (d r a : Int) (n : Nat) : (rowI d r a n).Pairwise ltT ∧ ∀ t ∈ rowI d r a n, ∃ x y : Int, t = [a, x, y] ∧ x < 1 + (n : Int) := by
  induction n with
  | zero => exact ⟨List.Pairwise.nil, fun t h => by cases h⟩
  | succ n ih =>
    obtain ⟨h1, h2⟩ := ih
    rw [rowI_succ]
    refine ⟨List.pairwise_append.mpr ⟨h1, ?_, fun x hx y hy => ?_⟩, fun t ht => ?_⟩
    · unfold cellI
      split
      · exact List.pairwise_singleton _ _
      · exact List.Pairwise.nil
    · obtain ⟨x1, x2, rfl, hx1⟩ := h2 x hx
      obtain ⟨_, rfl⟩ := mem_cellI hy
      exact lt_tail (lt_head hx1)
    · rcases List.mem_append.mp ht with h | h
      · obtain ⟨x1, x2, rfl, hx1⟩ := h2 t h
        exact ⟨x1, x2, rfl, by omega⟩
      · obtain ⟨_, rfl⟩ := mem_cellI h
        exact ⟨_, _, rfl, by omega⟩
theorem redI_up (d r : Int) (n : Nat) : (redI d r n).Pairwise ltT ∧ ∀ t ∈ redI d r n, ∃ a x y : Int, t = [a, x, y] ∧ a < -r + (n : Int) := by
  induction n with
  | zero => exact ⟨List.Pairwise.nil, fun t h => by cases h⟩
  | succ n ih =>
    obtain ⟨h1, h2⟩ := ih
    rw [redI_succ]
    obtain ⟨k1, k2⟩ := rowI_up d r (-r + (n : Int)) r.toNat
    refine ⟨List.pairwise_append.mpr ⟨h1, k1, fun x hx y hy => ?_⟩, fun t ht => ?_⟩
    · obtain ⟨a, x1, x2, rfl, ha⟩ := h2 x hx
      obtain ⟨y1, y2, rfl, _⟩ := k2 y hy
      exact lt_head ha
    · rcases List.mem_append.mp ht with h | h
      · obtain ⟨a, x1, x2, rfl, ha⟩ := h2 t h
        exact ⟨a, x1, x2, rfl, by omega⟩
      · obtain ⟨y1, y2, rfl, _⟩ := k2 t h
        exact ⟨_, _, _, rfl, by omega⟩
/-- discriminants of the law -/
structure DvI (d : Int) : Prop where
  lo : 0 < d
  hi : d ≤ 401
  ns : rootI d * rootI d ≠ d
theorem fm_em {x y : Int} : x.fmod y = 0 ↔ x % y = 0 := ⟨fun h => Int.emod_eq_zero_of_dvd (Int.dvd_of_fmod_eq_zero h), fun h => Int.fmod_eq_zero_of_dvd (Int.dvd_of_emod_eq_zero h)⟩
theorem cell_if {d a b : Int} (V : DvI d) (a0 : a ≠ 0) (h : (b * b - d) % (4 * a) = 0) : IF d a b ((b * b - d).fdiv (4 * a)) ∧ (b * b - d).fdiv (4 * a) * (4 * a) = b * b - d := by
  have e : (b * b - d).fdiv (4 * a) * (4 * a) = b * b - d := by
    obtain ⟨k, hk⟩ := Int.dvd_of_emod_eq_zero h
    rw [hk, Int.mul_fdiv_cancel_left _ (show 4 * a ≠ 0 by omega), Int.mul_comm]
  refine ⟨⟨?_, V.lo, by have := V.hi; omega, V.ns⟩, e⟩
  unfold dsc
  generalize (b * b - d).fdiv (4 * a) = c at *
  grind
theorem red_bds {d : Int} (V : DvI d) : 0 ≤ rootI d ∧ rootI d ≤ 20 := by
  obtain ⟨r0, r1, r2⟩ := rootI_spec (n := d) (by have := V.lo; omega)
  refine ⟨r0, ?_⟩
  by_cases z : rootI d ≤ 20
  · exact z
  · have := Int.mul_le_mul (show 21 ≤ rootI d by omega) (show 21 ≤ rootI d by omega) (by omega) (by omega)
    have := V.hi
    omega
theorem cell_ec {d a b : Int} (a0 : a ≠ 0) (h : (b * b - d) % (4 * a) = 0) : (b * b - d).fdiv (4 * a) * (4 * a) = b * b - d := by
  obtain ⟨k, hk⟩ := Int.dvd_of_emod_eq_zero h
  rw [hk, Int.mul_fdiv_cancel_left _ (show 4 * a ≠ 0 by omega), Int.mul_comm]
theorem cell_bd {d a b c : Int} (d1 : -400 ≤ d) (d2 : d ≤ 401) (a0 : a ≠ 0) (b1 : -20 ≤ b) (b2 : b ≤ 40) (e : c * (4 * a) = b * b - d) : Bd 60 c := by
  have h := congrArg Int.natAbs e
  rw [Int.natAbs_mul] at h
  have h2 : c.natAbs * 1 ≤ c.natAbs * (4 * a).natAbs := Nat.mul_le_mul_left _ (by omega)
  have h3 : (b * b).natAbs ≤ 40 * 40 := by
    rw [Int.natAbs_mul]
    exact Nat.mul_le_mul (by omega) (by omega)
  exact Bd.om (by omega)
/-- the reduced forms with content 1 -/
def RcF (d : Int) (f : Fm) : Prop := IFf d f ∧ RDf d f ∧ ctF f = 1
theorem mem_redI {d : Int} (V : DvI d) {t : List Int} : t ∈ redI d (rootI d) (2 * rootI d + 1).toNat ↔ ∃ f, RcF d f ∧ t = fL f := by
  obtain ⟨r0, r1⟩ := red_bds V
  constructor
  · intro h
    obtain ⟨i, _, h⟩ := List.mem_flatMap.mp h
    obtain ⟨j, _, h⟩ := List.mem_flatMap.mp h
    obtain ⟨k, rfl⟩ := mem_cellI h
    unfold okI at k
    rw [Bool.and_eq_true, Bool.and_eq_true, Bool.and_eq_true] at k
    obtain ⟨k1, k2, k3, k4⟩ := k
    exact ⟨(_, _, _), ⟨(cell_if V (of_decide_eq_true k1) (of_decide_eq_true k2)).1, (of_decide_eq_true k3 : RedR _ _ _), of_decide_eq_true k4⟩, rfl⟩
  · rintro ⟨⟨a, b, c⟩, ⟨F, R, ct⟩, rfl⟩
    have F : IF d a b c := F
    have R : RedI d a b := R
    have ct : gL [a, b, c] = 1 := ct
    obtain ⟨s1, s2, s3⟩ := F.sizes R
    have b0 := R.1
    have b1 := R.2.1
    have a0 := F.a0
    have hc : (b * b - d).fdiv (4 * a) = c := by
      rw [← F.cc, ← Int.mul_assoc]
      exact Int.mul_fdiv_cancel_left _ (by omega)
    have hm : (b * b - d) % (4 * a) = 0 := by
      rw [← F.cc, ← Int.mul_assoc]
      exact Int.mul_emod_right _ _
    refine List.mem_flatMap.mpr ⟨(a + rootI d).toNat, List.mem_range.mpr (by omega), List.mem_flatMap.mpr ⟨(b - 1).toNat, List.mem_range.mpr (by omega), ?_⟩⟩
    rw [show -rootI d + (((a + rootI d).toNat : Nat) : Int) = a by omega, show 1 + (((b - 1).toNat : Nat) : Int) = b by omega]
    have hk : okI d (rootI d) a b = true := by
      unfold okI
      rw [hc, decide_eq_true a0, decide_eq_true hm, decide_eq_true (show RedR (rootI d) a b from R), decide_eq_true ct]
      rfl
    unfold cellI
    rw [if_pos hk, hc]
    exact List.mem_singleton.mpr rfl
/-- there are few of them -/
def fewB (r k : Nat) : Bool := decide ((redI ((r * r + 1 + k : Nat) : Int) (r : Int) (2 * r + 1)).length ≤ 60)
def fewR (r lo n : Nat) : Bool := (List.range n).all fun k => fewB r (lo + k)
theorem few_a : ((List.range 11).all fun r => fewR r 0 (2 * r)) = true := by decide +kernel
theorem few_b : ((List.range 3).all fun r => fewR (11 + r) 0 (2 * (11 + r))) = true := by decide +kernel
theorem few_c : ((List.range 2).all fun r => fewR (14 + r) 0 (2 * (14 + r))) = true := by decide +kernel
theorem few_d : ((List.range 2).all fun r => fewR (16 + r) 0 (2 * (16 + r))) = true := by decide +kernel
theorem few_e : fewR 18 0 36 = true := by decide +kernel
theorem few_f : fewR 19 0 38 = true := by decide +kernel
theorem few_g : fewR 20 0 1 = true := by decide +kernel
theorem few_tab {r : Nat} (h : r ≤ 20) {k : Nat} (hk : k < 2 * r) (h2 : r = 20 → k < 1) : fewB r k = true := by
  have go : ∀ {lo n : Nat}, fewR r lo n = true → lo ≤ k → k < lo + n → fewB r k = true := fun {lo n} t l1 l2 => by
    have u := List.all_eq_true.mp t (k - lo) (List.mem_range.mpr (by omega))
    rw [show lo + (k - lo) = k by omega] at u
    exact u
  by_cases c1 : r < 11
  · exact go (List.all_eq_true.mp few_a r (List.mem_range.mpr c1)) (by omega) (by omega)
  by_cases c2 : r < 14
  · have t := List.all_eq_true.mp few_b (r - 11) (List.mem_range.mpr (by omega))
    rw [show 11 + (r - 11) = r by omega] at t
    exact go t (by omega) (by omega)
  by_cases c3 : r < 16
  · have t := List.all_eq_true.mp few_c (r - 14) (List.mem_range.mpr (by omega))
    rw [show 14 + (r - 14) = r by omega] at t
    exact go t (by omega) (by omega)
  by_cases c4 : r < 18
  · have t := List.all_eq_true.mp few_d (r - 16) (List.mem_range.mpr (by omega))
    rw [show 16 + (r - 16) = r by omega] at t
    exact go t (by omega) (by omega)
  obtain rfl | rfl | rfl : r = 18 ∨ r = 19 ∨ r = 20 := by omega
  · exact go few_e (by omega) (by omega)
  · exact go few_f (by omega) (by omega)
  · exact go few_g (by omega) (by have := h2 rfl; omega)
theorem few_ok {d : Int} (V : DvI d) : (redI d (rootI d) (2 * rootI d + 1).toNat).length ≤ 60 := by
  obtain ⟨r0, r1⟩ := red_bds V
  obtain ⟨_, s1, s2⟩ := rootI_spec (n := d) (by have := V.lo; omega)
  obtain ⟨r, hr⟩ : ∃ r : Nat, rootI d = (r : Int) := ⟨(rootI d).toNat, by omega⟩
  rw [hr] at s1 s2 r1 ⊢
  have e2 : ((r : Int) + 1) * ((r : Int) + 1) = (r : Int) * (r : Int) + 2 * (r : Int) + 1 := by grind
  have e3 : ((r * r : Nat) : Int) = (r : Int) * (r : Int) := by omega
  have ns : (r : Int) * (r : Int) ≠ d := by
    rw [← hr]
    exact V.ns
  have hi := V.hi
  have h3 := of_decide_eq_true (few_tab (r := r) (k := (d - (r : Int) * (r : Int) - 1).toNat) (by omega) (by omega) (fun e => by subst e; omega))
  rw [show ((r * r + 1 + (d - (r : Int) * (r : Int) - 1).toNat : Nat) : Int) = d by rw [Int.natCast_add, Int.natCast_add, e3]; omega] at h3
  rw [show (2 * (r : Int) + 1).toNat = 2 * r + 1 by omega]
  exact h3
/-! ### the least of a cycle -/
def LsF (d : Int) (f : Fm) : Prop := ∀ i, leT (fL f) (fL (rhoN d i f))
theorem rho_back {d : Int} {f g : Fm} {i : Nat} (V : DvI d) (C : RcF d f) (e : rhoN d i f = g) : ∃ j, rhoN d j g = f := by
  obtain ⟨k, cy, _⟩ := ring_ok C.1 C.2.1 (by have := V.hi; omega)
  exact rhoN_back cy.n0 cy.back e
theorem rcF_rho {d : Int} {f : Fm} (C : RcF d f) (i : Nat) : RcF d (rhoN d i f) := by
  obtain ⟨h1, h2⟩ := rhoN_ok i C.1 C.2.1
  exact ⟨h1, h2, ct_rho C.1 C.2.1 C.2.2 i⟩
/-- the least of the cycle of f -/
def lsU (d : Int) (f : Fm) : PySem.W.Tup Int := PySem.W.minOf (PySem.W.Tup.mk (fL f)) (((List.range 1624).map fun i => fL (rhoN d (i + 1) f)).map PySem.W.Tup.mk)
theorem ls_mem {d : Int} {f : Fm} {n : Nat} (cy : Cyc d f (n + 1)) (N : Nat) (hN : n ≤ N) (z : PySem.W.Tup Int) : z ∈ (PySem.W.Tup.mk (fL f) :: ((List.range N).map fun i => fL (rhoN d (i + 1) f)).map PySem.W.Tup.mk) ↔ ∃ i, z = PySem.W.Tup.mk (fL (rhoN d i f)) := by
  constructor
  · intro h
    rcases List.mem_cons.mp h with rfl | h
    · exact ⟨0, rfl⟩
    · obtain ⟨x, hx, rfl⟩ := List.mem_map.mp h
      obtain ⟨i, _, rfl⟩ := List.mem_map.mp hx
      exact ⟨i + 1, rfl⟩
  · rintro ⟨i, rfl⟩
    rw [← cy.mod i]
    have hi := Nat.mod_lt i cy.n0
    cases hj : i % (n + 1) with
    | zero => exact List.mem_cons_self
    | succ j => exact List.mem_cons_of_mem _ (List.mem_map.mpr ⟨_, List.mem_map.mpr ⟨j, List.mem_range.mpr (by omega), rfl⟩, rfl⟩)
theorem ls_eq {d : Int} {f : Fm} {k : Nat} (cy : Cyc d f (k + 1)) (hk : k + 1 ≤ 1624) : leastT d f k = lsU d f :=
  min_alike (fun z hz => (ls_mem cy 1624 (by omega) z).mpr ((ls_mem cy k (Nat.le_refl _) z).mp hz)) (fun z hz => (ls_mem cy k (Nat.le_refl _) z).mpr ((ls_mem cy 1624 (by omega) z).mp hz))
theorem ls_spec {d : Int} {f : Fm} (V : DvI d) (C : RcF d f) : ∃ i, lsU d f = PySem.W.Tup.mk (fL (rhoN d i f)) ∧ LsF d (rhoN d i f) := by
  obtain ⟨k, cy, hk⟩ := ring_ok C.1 C.2.1 (by have := V.hi; omega)
  obtain ⟨m1, m2⟩ := min_spec (((List.range 1624).map fun i => fL (rhoN d (i + 1) f)).map PySem.W.Tup.mk) (PySem.W.Tup.mk (fL f))
  obtain ⟨i, hi⟩ := (ls_mem cy 1624 (by omega) _).mp m1
  refine ⟨i, hi, fun j => ?_⟩
  have h := m2 (PySem.W.Tup.mk (fL (rhoN d (i + j) f))) ((ls_mem cy 1624 (by omega) _).mpr ⟨i + j, rfl⟩)
  rw [hi, rhoN_add] at h
  exact h
theorem ls_self {d : Int} {f : Fm} (V : DvI d) (C : RcF d f) (L : LsF d f) : lsU d f = PySem.W.Tup.mk (fL f) := by
  obtain ⟨i, h1, h2⟩ := ls_spec V C
  obtain ⟨j, hj⟩ := rho_back V C rfl
  have k1 := h2 j
  rw [hj] at k1
  rw [h1, leT_antisymm (L i) k1]
/-- what the classes of d are -/
def ClD (d : Int) (z : List Int) : Prop := ∃ a b : Int, okC d a b = true ∧ z = [a, b, (b * b - d) / (4 * a)]
def ClI (d : Int) (z : List Int) : Prop := ∃ f : Fm, RcF d f ∧ LsF d f ∧ z = fL f
def ClM (d : Int) (z : List Int) : Prop := (d < 0 ∧ ClD d z) ∨ (0 < d ∧ ClI d z)
/-! ### the walk over the reduced forms -/
theorem in_take {RL : List (List Int)} {i : Nat} {t z : List Int} (h : RL[i]? = some t) : z ∈ RL.take (i + 1) ↔ z ∈ RL.take i ∨ z = t := by
  rw [List.take_succ, h, List.mem_append]
  exact ⟨fun k => k.imp id (fun m => List.mem_singleton.mp m), fun k => k.imp id (fun m => List.mem_singleton.mpr m)⟩
theorem lt_take {RL : List (List Int)} (up : RL.Pairwise ltT) {i : Nat} {t z : List Int} (h : RL[i]? = some t) : z ∈ RL.take i ↔ z ∈ RL ∧ ltT z t := by
  obtain ⟨hi, ht⟩ := List.getElem?_eq_some_iff.mp h
  constructor
  · intro m
    obtain ⟨j, hj, e⟩ := List.getElem_of_mem m
    rw [List.length_take] at hj
    rw [List.getElem_take] at e
    refine ⟨List.mem_of_mem_take m, ?_⟩
    have k := List.pairwise_iff_getElem.mp up j i (by omega) hi (by omega)
    rw [e, ht] at k
    exact k
  · rintro ⟨m, l⟩
    obtain ⟨j, hj, e⟩ := List.getElem_of_mem m
    rcases Nat.lt_trichotomy j i with c | c | c
    · exact List.mem_of_getElem? (i := j) (by rw [List.getElem?_take, if_pos c, List.getElem?_eq_getElem hj, e])
    · subst c
      rw [ht] at e
      exact absurd e.symm (ltT_ne l)
    · have k := List.pairwise_iff_getElem.mp up i j hi hj c
      rw [e, ht] at k
      have q := ltT_leT l
      unfold leT at q
      unfold ltT at k
      rw [k] at q
      cases q
/-- what has been seen -/
def SnP (d : Int) (RL : List (List Int)) (i : Nat) (z : List Int) : Prop := ∃ (g : Fm) (j : Nat), fL g ∈ RL.take i ∧ RcF d g ∧ z = fL (rhoN d j g)
abbrev RLd (d : Int) : List (List Int) := redI d (rootI d) (2 * rootI d + 1).toNat
theorem rl_up (d : Int) : (RLd d).Pairwise ltT := (redI_up d (rootI d) _).1
theorem seen_iff {d : Int} (v : DvI d) {i : Nat} {f : Fm} (h : (RLd d)[i]? = some (fL f)) (C : RcF d f) : SnP d (RLd d) i (fL f) ↔ ¬ LsF d f := by
  constructor
  · rintro ⟨g, j, m, G, e⟩ L
    obtain ⟨m', hm⟩ := rho_back v G (fL_inj e).symm
    have k := L m'
    rw [hm] at k
    have l := ((lt_take (rl_up d) h).mp m).2
    unfold ltT at l
    unfold leT at k
    rw [l] at k
    cases k
  · intro n
    obtain ⟨m, hm⟩ : ∃ m, ¬ leT (fL f) (fL (rhoN d m f)) := Classical.not_forall.mp n
    have G := rcF_rho C m
    obtain ⟨j, hj⟩ := rho_back v C (g := rhoN d m f) rfl
    refine ⟨rhoN d m f, j, (lt_take (rl_up d) h).mpr ⟨(mem_redI v).mpr ⟨_, G, rfl⟩, ?_⟩, G, by rw [hj]⟩
    unfold ltT
    cases e : PySem.W.listLt (fL (rhoN d m f)) (fL f)
    · exact absurd e hm
    · rfl
theorem seen_new {d : Int} {RL : List (List Int)} {i : Nat} {f : Fm} (h : RL[i]? = some (fL f)) (C : RcF d f) (z : List Int) : SnP d RL (i + 1) z ↔ SnP d RL i z ∨ ∃ j, z = fL (rhoN d j f) := by
  constructor
  · rintro ⟨g, j, m, G, e⟩
    rcases (in_take h).mp m with m | m
    · exact .inl ⟨g, j, m, G, e⟩
    · rw [fL_inj m] at e
      exact .inr ⟨j, e⟩
  · rintro (⟨g, j, m, G, e⟩ | ⟨j, e⟩)
    · exact ⟨g, j, (in_take h).mpr (.inl m), G, e⟩
    · exact ⟨f, j, (in_take h).mpr (.inr rfl), C, e⟩
theorem seen_old {d : Int} {RL : List (List Int)} {i : Nat} {f : Fm} (h : RL[i]? = some (fL f)) (C : RcF d f) (s : SnP d RL i (fL f)) (z : List Int) : SnP d RL (i + 1) z ↔ SnP d RL i z := by
  rw [seen_new h C]
  refine ⟨fun k => k.elim id ?_, .inl⟩
  rintro ⟨j, rfl⟩
  obtain ⟨g, m, hm, G, e⟩ := s
  exact ⟨g, m + j, hm, G, by rw [rhoN_add, fL_inj e]⟩
theorem cl_self {d : Int} {f : Fm} : ClI d (fL f) ↔ RcF d f ∧ LsF d f := by
  constructor
  · rintro ⟨g, G, L, e⟩
    rw [fL_inj e]
    exact ⟨G, L⟩
  · rintro ⟨C, L⟩
    exact ⟨f, C, L, rfl⟩
/-! ### discriminants below 0 -/
theorem mem_cellC {d a b : Int} {t : List Int} (h : t ∈ cellC d a b) : okC d a b = true ∧ t = [a, b, (b * b - d) / (4 * a)] := by
  unfold cellC at h
  split at h
  · rename_i k
    exact ⟨k, List.mem_singleton.mp h⟩
  · cases h
theorem rowC_up (d a : Int) (n : Nat) : (rowC d a n).Pairwise ltT ∧ ∀ t ∈ rowC d a n, ∃ x y : Int, t = [a, x, y] ∧ x < 1 - a + (n : Int) := by
  induction n with
  | zero => exact ⟨List.Pairwise.nil, fun t h => by cases h⟩
  | succ n ih =>
    obtain ⟨h1, h2⟩ := ih
    rw [rowC_succ]
    refine ⟨List.pairwise_append.mpr ⟨h1, ?_, fun x hx y hy => ?_⟩, fun t ht => ?_⟩
    · unfold cellC
      split
      · exact List.pairwise_singleton _ _
      · exact List.Pairwise.nil
    · obtain ⟨x1, x2, rfl, hx1⟩ := h2 x hx
      obtain ⟨_, rfl⟩ := mem_cellC hy
      exact lt_tail (lt_head hx1)
    · rcases List.mem_append.mp ht with h | h
      · obtain ⟨x1, x2, rfl, hx1⟩ := h2 t h
        exact ⟨x1, x2, rfl, by omega⟩
      · obtain ⟨_, rfl⟩ := mem_cellC h
        exact ⟨_, _, rfl, by omega⟩
theorem clsC_up (d : Int) (n : Nat) : (clsC d n).Pairwise ltT ∧ ∀ t ∈ clsC d n, ∃ a x y : Int, t = [a, x, y] ∧ a < 1 + (n : Int) := by
  induction n with
  | zero => exact ⟨List.Pairwise.nil, fun t h => by cases h⟩
  | succ n ih =>
    obtain ⟨h1, h2⟩ := ih
    rw [clsC_succ]
    obtain ⟨k1, k2⟩ := rowC_up d (1 + (n : Int)) (2 * (n + 1))
    refine ⟨List.pairwise_append.mpr ⟨h1, k1, fun x hx y hy => ?_⟩, fun t ht => ?_⟩
    · obtain ⟨a, x1, x2, rfl, ha⟩ := h2 x hx
      obtain ⟨y1, y2, rfl, _⟩ := k2 y hy
      exact lt_head ha
    · rcases List.mem_append.mp ht with h | h
      · obtain ⟨a, x1, x2, rfl, ha⟩ := h2 t h
        exact ⟨a, x1, x2, rfl, by omega⟩
      · obtain ⟨y1, y2, rfl, _⟩ := k2 t h
        exact ⟨_, _, _, rfl, by omega⟩
theorem okC_pf {d a b : Int} (d0 : d < 0) (d1 : -2000 ≤ d) (h : okC d a b = true) : (∃ c, (b * b - d) / (4 * a) = c ∧ (b * b - d) % (4 * a) = 0 ∧ PF (-d) a b c ∧ RedD a b c ∧ gL [a, b, c] = 1) ∧ 1 ≤ a ∧ 3 * (a * a) ≤ -d := by
  unfold okC at h
  rw [Bool.and_eq_true, Bool.and_eq_true] at h
  obtain ⟨k1, k2, k3⟩ := h
  have k1 := of_decide_eq_true k1
  have k2 := of_decide_eq_true k2
  have k3 := of_decide_eq_true k3
  have a0 := redD_pos k2
  have e : 4 * a * ((b * b - d) / (4 * a)) = b * b - d := Int.mul_ediv_cancel_of_emod_eq_zero k1
  generalize (b * b - d) / (4 * a) = c at *
  obtain ⟨r1, r2, r3, r4⟩ := k2
  refine ⟨⟨c, rfl, k1, ⟨?_, by omega, by omega, a0⟩, ⟨r1, r2, r3, r4⟩, k3⟩, by omega, ?_⟩
  · rw [← Int.mul_assoc]
    omega
  · have u1 := Int.mul_le_mul_of_nonneg_left r3 (show 0 ≤ 4 * a by omega)
    have u2 : b * b ≤ a * a := by
      rcases Int.le_total 0 b with z | z
      · exact Int.mul_le_mul r2 r2 z (by omega)
      · have := Int.mul_le_mul (show -b ≤ a by omega) (show -b ≤ a by omega) (by omega) (by omega)
        rw [Int.neg_mul_neg] at this
        exact this
    have u3 : 4 * a * a = 4 * (a * a) := Int.mul_assoc _ _ _
    omega
theorem mem_clsC {d : Int} (d0 : d < 0) (d1 : -2000 ≤ d) {z : List Int} : z ∈ clsC d (manyC d) ↔ ClD d z := by
  constructor
  · intro h
    obtain ⟨i, _, h⟩ := List.mem_flatMap.mp h
    obtain ⟨j, _, h⟩ := List.mem_flatMap.mp h
    obtain ⟨k, e⟩ := mem_cellC h
    exact ⟨_, _, k, e⟩
  · rintro ⟨a, b, k, rfl⟩
    obtain ⟨⟨c, ec, _, F, R, _⟩, a1, a2⟩ := okC_pf d0 d1 k
    obtain ⟨r1, r2, _⟩ := R
    obtain ⟨s0, s1, s2⟩ := rootI_spec (n := (-d) / 3) (by omega)
    have am : a ≤ rootI ((-d) / 3) := by
      by_cases z : a ≤ rootI ((-d) / 3)
      · exact z
      · have := Int.mul_le_mul (show rootI ((-d) / 3) + 1 ≤ a by omega) (show rootI ((-d) / 3) + 1 ≤ a by omega) (by omega) (by omega)
        omega
    refine List.mem_flatMap.mpr ⟨(a - 1).toNat, List.mem_range.mpr (by unfold manyC; omega), List.mem_flatMap.mpr ⟨(b - 1 + a).toNat, List.mem_range.mpr (by omega), ?_⟩⟩
    rw [show 1 + (((a - 1).toNat : Nat) : Int) = a by omega, show 1 - a + (((b - 1 + a).toNat : Nat) : Int) = b by omega]
    unfold cellC
    rw [if_pos k]
    exact List.mem_singleton.mpr rfl
/-! ### the law's own list -/
def lsL (d : Int) (f : Fm) : List Int := match lsU d f with | ⟨t⟩ => t
theorem ls_lsL (d : Int) (f : Fm) : lsU d f = PySem.W.Tup.mk (lsL d f) := by
  unfold lsL
  cases lsU d f
  rfl
def cellN (d a b c : Int) : List (List Int) := if d < 0 ∧ gL [a, b, c] = 1 ∧ RedD a b c then [[a, b, c]] else []
def cellP (d a b c : Int) : List (List Int) := if 0 < d ∧ gL [a, b, c] = 1 ∧ RedI d a b then [lsL d (a, b, c)] else []
def cellA (d a b : Int) : List (List Int) := if a ≠ 0 ∧ (b * b - d) % (4 * a) = 0 then cellN d a b ((b * b - d).fdiv (4 * a)) ++ cellP d a b ((b * b - d).fdiv (4 * a)) else []
def rowA (d a : Int) (n : Nat) : List (List Int) := (List.range n).flatMap fun (j : Nat) => cellA d a (-20 + (j : Int))
def allA (d : Int) (n : Nat) : List (List Int) := (List.range n).flatMap fun (i : Nat) => rowA d (-40 + (i : Int)) 61
theorem rowA_succ (d a : Int) (n : Nat) : rowA d a (n + 1) = rowA d a n ++ cellA d a (-20 + (n : Int)) := by
  unfold rowA
  rw [List.range_succ, List.flatMap_append]
  simp
theorem allA_succ (d : Int) (n : Nat) : allA d (n + 1) = allA d n ++ rowA d (-40 + (n : Int)) 61 := by
  unfold allA
  rw [List.range_succ, List.flatMap_append]
  simp
theorem cellN_len (d a b c : Int) : (cellN d a b c).length ≤ 1 := by
  unfold cellN
  split
  · exact Nat.le_refl _
  · exact Nat.zero_le _
theorem cellA_len (d a b : Int) : (cellA d a b).length ≤ 2 := by
  unfold cellA cellN cellP
  repeat' split
  all_goals simp
theorem rowA_len (d a : Int) : ∀ n : Nat, (rowA d a n).length ≤ 2 * n
  | 0 => Nat.le_refl _
  | n + 1 => by
    rw [rowA_succ, List.length_append]
    have := rowA_len d a n
    have := cellA_len d a (-20 + (n : Int))
    omega
theorem allA_len (d : Int) : ∀ n : Nat, (allA d n).length ≤ 122 * n
  | 0 => Nat.zero_le _
  | n + 1 => by
    rw [allA_succ, List.length_append]
    have := allA_len d n
    have := rowA_len d (-40 + (n : Int)) 61
    omega
theorem mem_allA {d : Int} (v : (d < 0 ∧ -400 ≤ d) ∨ DvI d) {z : List Int} : z ∈ allA d 81 ↔ ClM d z := by
  constructor
  · intro h
    obtain ⟨i, _, h⟩ := List.mem_flatMap.mp h
    obtain ⟨j, _, h⟩ := List.mem_flatMap.mp h
    generalize -40 + (i : Int) = a at *
    generalize -20 + (j : Int) = b at *
    unfold cellA at h
    split at h
    · rename_i k
      obtain ⟨a0, hm⟩ := k
      rcases List.mem_append.mp h with h | h
      · unfold cellN at h
        split at h
        · rename_i k
          obtain ⟨d0, hg, hr⟩ := k
          have ap := redD_pos hr
          rw [Int.fdiv_eq_ediv_of_nonneg (b * b - d) (show 0 ≤ 4 * a by omega)] at *
          refine .inl ⟨d0, a, b, ?_, List.mem_singleton.mp h⟩
          unfold okC
          rw [decide_eq_true hm, decide_eq_true hr, decide_eq_true hg]
          rfl
        · cases h
      · unfold cellP at h
        split at h
        · rename_i k
          obtain ⟨d0, hg, hr⟩ := k
          rcases v with ⟨v, _⟩ | v
          · omega
          · have C : RcF d (a, b, (b * b - d).fdiv (4 * a)) := ⟨(cell_if v a0 hm).1, hr, hg⟩
            obtain ⟨i, h1, h2⟩ := ls_spec v C
            rw [ls_lsL] at h1
            injection h1 with h1
            rw [List.mem_singleton.mp h]
            exact .inr ⟨d0, _, rcF_rho C i, h2, h1⟩
        · cases h
    · cases h
  · intro h
    have go : ∀ a b : Int, -40 ≤ a → a ≤ 40 → -20 ≤ b → b ≤ 40 → z ∈ cellA d a b → z ∈ allA d 81 := fun a b a1 a2 b1 b2 m => by
      refine List.mem_flatMap.mpr ⟨(a + 40).toNat, List.mem_range.mpr (by omega), List.mem_flatMap.mpr ⟨(b + 20).toNat, List.mem_range.mpr (by omega), ?_⟩⟩
      rw [show -40 + (((a + 40).toNat : Nat) : Int) = a by omega, show -20 + (((b + 20).toNat : Nat) : Int) = b by omega]
      exact m
    rcases h with ⟨d0, a, b, k, rfl⟩ | ⟨d0, f, C, L, rfl⟩
    · rcases v with ⟨_, v⟩ | v
      · obtain ⟨⟨c, ec, hm, F, R, hg⟩, a1, a2⟩ := okC_pf d0 (by omega) k
        have r1 := R.1
        have r2 := R.2.1
        have a20 : a ≤ 20 := by
          by_cases z : a ≤ 20
          · exact z
          · have := Int.mul_le_mul (show 21 ≤ a by omega) (show 21 ≤ a by omega) (by omega) (by omega)
            omega
        refine go a b (by omega) (by omega) (by omega) (by omega) ?_
        unfold cellA
        rw [if_pos ⟨by omega, hm⟩, Int.fdiv_eq_ediv_of_nonneg (b * b - d) (show 0 ≤ 4 * a by omega), ec]
        unfold cellN
        rw [if_pos ⟨d0, hg, R⟩]
        exact List.mem_append_left _ (List.mem_singleton.mpr rfl)
      · have := v.lo
        omega
    · rcases v with ⟨v, _⟩ | v
      · omega
      · have hs := ls_self v C L
        rw [ls_lsL] at hs
        injection hs with hs
        obtain ⟨a, b, c⟩ := f
        have F : IF d a b c := C.1
        have R : RedI d a b := C.2.1
        have ct : gL [a, b, c] = 1 := C.2.2
        obtain ⟨s1, s2, s3⟩ := F.sizes R
        obtain ⟨r0, r1⟩ := red_bds v
        have b0 := R.1
        have b1 := R.2.1
        have a0 := F.a0
        have hc : (b * b - d).fdiv (4 * a) = c := by
          rw [← F.cc, ← Int.mul_assoc]
          exact Int.mul_fdiv_cancel_left _ (by omega)
        have hm : (b * b - d) % (4 * a) = 0 := by
          rw [← F.cc, ← Int.mul_assoc]
          exact Int.mul_emod_right _ _
        refine go a b (by omega) (by omega) (by omega) (by omega) ?_
        unfold cellA
        rw [if_pos ⟨a0, hm⟩, hc]
        unfold cellP
        rw [if_pos ⟨d0, ct, R⟩, hs]
        exact List.mem_append_right _ (List.mem_singleton.mpr rfl)
/-! ### a list without what stands twice -/
def onceI (ts : List (List Int)) (n : Nat) : List Nat := (List.range n).filter fun k => !decide (ts.getD k [] ∈ ts.take k)
def once (ts : List (List Int)) (n : Nat) : List (List Int) := (onceI ts n).map fun k => ts.getD k []
theorem onceI_succ (ts : List (List Int)) (n : Nat) : onceI ts (n + 1) = onceI ts n ++ (if ts.getD n [] ∈ ts.take n then [] else [n]) := by
  unfold onceI
  rw [List.range_succ, List.filter_append]
  by_cases h : ts.getD n [] ∈ ts.take n
  · rw [if_pos h, List.filter_cons_of_neg (by rw [decide_eq_true h]; decide), List.filter_nil]
  · rw [if_neg h, List.filter_cons_of_pos (by rw [decide_eq_false h]; rfl), List.filter_nil]
theorem once_ok (ts : List (List Int)) : ∀ n, n ≤ ts.length → (once ts n).Nodup ∧ ∀ z, z ∈ once ts n ↔ z ∈ ts.take n
  | 0, _ => ⟨List.Pairwise.nil, fun z => by rw [List.take_zero]; exact Iff.rfl⟩
  | n + 1, h => by
    obtain ⟨h1, h2⟩ := once_ok ts n (by omega)
    have e : ts[n]? = some (ts.getD n []) := by rw [List.getD_eq_getElem?_getD, List.getElem?_eq_getElem (by omega)]; rfl
    have e2 : once ts (n + 1) = once ts n ++ (if ts.getD n [] ∈ ts.take n then [] else [ts.getD n []]) := by
      unfold once
      rw [onceI_succ, List.map_append]
      split <;> rfl
    rw [e2]
    by_cases k : ts.getD n [] ∈ ts.take n
    · rw [if_pos k, List.append_nil]
      refine ⟨h1, fun z => ?_⟩
      rw [h2, in_take e]
      exact ⟨.inl, fun q => q.elim id (fun q => q ▸ k)⟩
    · rw [if_neg k]
      refine ⟨List.nodup_append.mpr ⟨h1, List.pairwise_singleton _ _, fun x hx y hy => ?_⟩, fun z => ?_⟩
      · rw [List.mem_singleton.mp hy]
        rintro rfl
        exact k ((h2 _).mp hx)
      · rw [List.mem_append, h2, in_take e, List.mem_singleton]
namespace R
/-- a comprehension over a range whose test makes new lists, its results known -/
theorem lcFSV {σ : L2.St} {H : Hp} {Q : VK} {g : TG} {tt : TT} {te : TE} {vs : List Nat} {n : Nat} (p : Nat → Bool) (f : Nat → V) (hn : n ≤ 100000)
    (hs : ∀ i H' (C : V → Hp → Prop) (E : Hp → Prop), i < n → Same H H' → (p i = true → ∀ H2, Same H' H2 → C (f i) H2) → (p i = false → ∀ H2, Same H' H2 → E H2) → g (.int (0 + (i : Int))) (wipe σ vs) H' fun σ2 H2 => wipe σ2 vs = wipe σ vs ∧ tt σ2 H2 fun b H3 => if b = true then te σ2 H3 C else E H3)
    (hq : ∀ H' D, H' D = some (.lst (((List.range n).filter p).map f)) → Same H H' → H D = none → Q (.ref D) H') : LcJ (Itr 0 n) g tt te vs σ H Q := by
  intro D nD
  refine lc_range (lo := 0) (n := n) (fun i H' => H' D = some (.lst (((List.range i).filter p).map f)) ∧ Same H H') ⟨upd_same, same_upd nD⟩ (fun i H5 hi ⟨h1, h5⟩ => ?_) (fun H5 ⟨h1, h5⟩ => hq H5 D h1 h5 nD)
  refine hs i H5 _ _ hi h5 (fun e H2 s2 => ⟨_, s2 _ _ h1, ?_, ?_, same_mut (h5.trans s2) nD⟩) (fun e H2 s2 => ⟨?_, h5.trans s2⟩)
  · rw [List.length_map]
    have := List.length_filter_le p (List.range i)
    rw [List.length_range] at this
    exact Nat.lt_of_le_of_lt (Nat.le_trans this (by omega : i ≤ 100000)) (by decide)
  · rw [upd_same, List.range_succ, List.filter_append, List.filter_cons_of_pos (by exact e), List.map_append]
    rfl
  · rw [List.range_succ, List.filter_append, List.filter_cons_of_neg (by rw [e]; decide), List.filter_nil, List.append_nil]
    exact s2 _ _ h1
end R
theorem cut_toV9 (xs : List V) {k : Nat} (h : k ≤ xs.length) : cutV xs none (some (k : Int)) = xs.take k := by
  unfold cutV
  rw [HT.sIx_none, HT.sIx_nat, List.drop_zero, Nat.sub_zero, Nat.min_eq_left h]
theorem tps_take9 {K : PySem.W.Frag} {H : Hp} : ∀ {vs : List V} {ts : List (List Int)}, Tps K H vs ts → ∀ k, Tps K H (vs.take k) (ts.take k)
  | _, _, .nil, k => by rw [List.take_nil, List.take_nil]; exact .nil
  | _, _, .cons a t, 0 => .nil
  | _, _, .cons a t, k + 1 => .cons a (tps_take9 t k)
theorem tps_pick {K : PySem.W.Frag} {H : Hp} {vs : List V} {ts : List (List Int)} (h : Tps K H vs ts) : ∀ ks : List Nat, (∀ k ∈ ks, k < ts.length) → Tps K H (ks.map fun k => vs.getD k .non) (ks.map fun k => ts.getD k [])
  | [], _ => .nil
  | k :: ks, hk => by
    have l := h.len
    have hi := hk k List.mem_cons_self
    have e : vs[k]? = some (vs[k]'(by omega)) := List.getElem?_eq_getElem (by omega)
    obtain ⟨a, t, e1, e2, s⟩ := h.at e
    have g1 : vs.getD k .non = .ref a := by rw [List.getD_eq_getElem?_getD, e, e1]; rfl
    have g2 : ts.getD k [] = t := by rw [List.getD_eq_getElem?_getD, e2]; rfl
    rw [List.map_cons, List.map_cons, g1, g2]
    exact .cons s (tps_pick h ks fun j hj => hk j (List.mem_cons_of_mem _ hj))
/-! ### the principal class, mirrored forms -/
def Sd (d : Int) : Srt := if d < 0 then .d (-d) 1 else .i d
theorem sd_o (d : Int) : (d < 0 ∧ Sd d = .d (-d) 1) ∨ (¬ d < 0 ∧ Sd d = .i d) := by
  unfold Sd
  by_cases h : d < 0
  · exact .inl ⟨h, if_pos h⟩
  · exact .inr ⟨h, if_neg h⟩
theorem inS_d {d a b c : Int} (v : (d < 0 ∧ -400 ≤ d) ∨ DvI d) (e : dsc a b c = d) (p : d < 0 → 0 < a) : InS (Sd d) (a, b, c) := by
  rcases sd_o d with ⟨h, q⟩ | ⟨h, q⟩
  · rw [q]
    exact ⟨.inl ⟨rfl, p h⟩, pf_of (.inl rfl) (e.trans (Int.neg_neg d).symm) (by omega) (by rcases v with v | v; omega; exact absurd v.lo (by omega)) (by have := p h; show 0 < 1 * a; omega)⟩
  · rw [q]
    rcases v with v | v
    · exact absurd v.1 h
    · exact ⟨⟨e, v.lo, by have := v.hi; show d ≤ 10000; omega, v.ns⟩, by have := v.hi; show d ≤ 3200; omega⟩
theorem prin_dsc {d : Int} (h : d % 4 = 0 ∨ d % 4 = 1) : dsc 1 (d % 2) ((d % 2 - d) / 4) = d := by
  have e : d % 2 * (d % 2) = d % 2 := by
    rcases Int.emod_two_eq d with w | w <;> rw [w] <;> rfl
  unfold dsc
  rw [e]
  omega
theorem cn_cl {d b0 a0 c0 x y z : Int} (v : (d < 0 ∧ -400 ≤ d) ∨ DvI d) (pd : dsc a0 b0 c0 = d) (ct : ctF (a0, b0, c0) = 1) (C : CnS (Sd d) (a0, b0, c0) (x, y, z)) : ClM d [x, y, z] := by
  rcases sd_o d with ⟨d0, q⟩ | ⟨d0, q⟩
  · rw [q] at C
    obtain ⟨⟨m1, m2, m3, m4⟩, dm, e, R⟩ := C
    have dm : m1 * m4 - m2 * m3 = 1 := dm
    have e : (x, y, z) = actF (a0, b0, c0) m1 m2 m3 m4 := e
    have R : RedD (1 * x) (1 * y) (1 * z) := R
    rw [Int.one_mul, Int.one_mul, Int.one_mul] at R
    have k := ct_act dm ct
    rw [← e] at k
    have dd : dsc x y z = d := by
      have u1 : x = fA a0 b0 c0 m1 m3 := congrArg (fun f : Fm => f.1) e
      have u2 : y = fB a0 b0 c0 m1 m2 m3 m4 := congrArg (fun f : Fm => f.2.1) e
      have u3 : z = fA a0 b0 c0 m2 m4 := congrArg (fun f : Fm => f.2.2) e
      rw [u1, u2, u3, dsc_act, dm, pd, Int.mul_one, Int.mul_one]
    have x0 := redD_pos R
    have e4 : y * y - d = 4 * x * z := by
      rw [← dd]
      unfold dsc
      omega
    have hc : (y * y - d) / (4 * x) = z := by
      rw [e4]
      exact Int.mul_ediv_cancel_left _ (by omega)
    have hm : (y * y - d) % (4 * x) = 0 := by
      rw [e4]
      exact Int.mul_emod_right _ _
    refine .inl ⟨d0, x, y, ?_, by rw [hc]⟩
    unfold okC
    rw [hc, decide_eq_true hm, decide_eq_true R, decide_eq_true (show gL [x, y, z] = 1 from k)]
    rfl
  · rw [q] at C
    rcases v with v | v
    · exact absurd v.1 d0
    obtain ⟨g, k, ⟨w1, w2, w3, w4⟩, G, Rg, dw, eg, cy, hl⟩ := C
    have dw : w1 * w4 - w2 * w3 = 1 := dw
    have eg : g = actF (a0, b0, c0) w1 w2 w3 w4 := eg
    have kc := ct_act dw ct
    rw [← eg] at kc
    have CG : RcF d g := ⟨G, Rg, kc⟩
    obtain ⟨k', cy', hk'⟩ := ring_ok G Rg (by have := v.hi; omega)
    have kk : k = k' := by
      rcases Nat.lt_trichotomy k k' with z | z | z
      · exact absurd cy.back (cy'.first (k + 1) (by omega) (by omega))
      · exact z
      · exact absurd cy'.back (cy.first (k' + 1) (by omega) (by omega))
    subst kk
    obtain ⟨i, h1, h2⟩ := ls_spec v CG
    rw [← ls_eq cy' hk', ← hl] at h1
    injection h1 with h1
    exact .inr ⟨v.lo, _, rcF_rho CG i, h2, h1⟩
theorem prin_ct (d : Int) : ctF (1, d % 2, (d % 2 - d) / 4) = 1 := by
  show gL [1, d % 2, (d % 2 - d) / 4] = 1
  rw [gL_three, show (1 : Int).natAbs = 1 from rfl, Nat.gcd_one_left, Nat.gcd_one_left]
  rfl
theorem prin_in {d x y z : Int} (v : (d < 0 ∧ -400 ≤ d) ∨ DvI d) (h : d % 4 = 0 ∨ d % 4 = 1) (C : CnS (Sd d) (1, d % 2, (d % 2 - d) / 4) (x, y, z)) : ClM d [x, y, z] := cn_cl v (prin_dsc h) (prin_ct d) C
theorem cl_form {d : Int} (v : (d < 0 ∧ -400 ≤ d) ∨ DvI d) {t : List Int} (h : ClM d t) : ∃ a b c : Int, t = [a, b, c] ∧ dsc a b c = d ∧ (d < 0 → 0 < a) ∧ a.natAbs ≤ 401 ∧ b.natAbs ≤ 401 ∧ c.natAbs ≤ 401 := by
  rcases h with ⟨d0, a, b, k, rfl⟩ | ⟨d0, f, C, _, rfl⟩
  · rcases v with v | v
    · obtain ⟨⟨c, ec, hm, F, R, hg⟩, a1, a2⟩ := okC_pf d0 (by omega) k
      obtain ⟨r1, r2, r3, _⟩ := R
      have fd := F.d
      have a20 : a ≤ 20 := by
        by_cases z : a ≤ 20
        · exact z
        · have := Int.mul_le_mul (show 21 ≤ a by omega) (show 21 ≤ a by omega) (by omega) (by omega)
          omega
      have b20 : b * b ≤ 400 := by
        have : (b * b).natAbs ≤ 20 * 20 := by
          rw [Int.natAbs_mul]
          exact Nat.mul_le_mul (by omega) (by omega)
        omega
      have ca : c ≤ a * c := by
        have := Int.mul_le_mul_of_nonneg_right a1 (show 0 ≤ c by omega)
        omega
      refine ⟨a, b, c, by rw [ec], ?_, fun _ => by omega, by omega, by omega, by omega⟩
      unfold dsc
      rw [Int.mul_assoc]
      omega
    · have := v.lo
      omega
  · rcases v with v | v
    · omega
    · obtain ⟨a, b, c⟩ := f
      have F : IF d a b c := C.1
      have R : RedI d a b := C.2.1
      obtain ⟨s1, s2, s3⟩ := F.sizes R
      obtain ⟨r0, r1⟩ := red_bds v
      have b0 := R.1
      have b1 := R.2.1
      exact ⟨a, b, c, rfl, F.d, fun h => by omega, by omega, by omega, by omega⟩
theorem cl_len {d : Int} (v : (d < 0 ∧ -400 ≤ d) ∨ DvI d) {ts : List (List Int)} (a : Asc ts) (m : ∀ z, z ∈ ts ↔ ClM d z) : ts.length ≤ 1000 := by
  rcases v with v | v
  · have h := nodup_sub_len a.2 (m := clsC d (manyC d)) (fun z hz => (mem_clsC v.1 (by omega)).mpr (by
      rcases (m z).mp hz with k | k
      · exact k.2
      · exact absurd k.1 (by omega)))
    have l := clsC_len d (manyC d)
    obtain ⟨s0, s1, s2⟩ := rootI_spec (n := (-d) / 3) (by omega)
    have am : rootI ((-d) / 3) ≤ 20 := by
      by_cases z : rootI ((-d) / 3) ≤ 20
      · exact z
      · have := Int.mul_le_mul (show 21 ≤ rootI ((-d) / 3) by omega) (show 21 ≤ rootI ((-d) / 3) by omega) (by omega) (by omega)
        omega
    have k : manyC d ≤ 20 := by unfold manyC; omega
    have := Nat.mul_le_mul k (show manyC d + 1 ≤ 21 by omega)
    omega
  · have h := nodup_sub_len a.2 (m := RLd d) (fun z hz => (mem_redI v).mpr (by
      rcases (m z).mp hz with k | ⟨_, f, C, _, e⟩
      · exact absurd k.1 (by have := v.lo; omega)
      · exact ⟨f, C, e⟩))
    exact Nat.le_trans h (Nat.le_trans (few_ok v) (by decide))
theorem mir_act (a b c p q r s : Int) : fA a (-b) c p (-r) = fA a b c p r ∧ fB a (-b) c p (-q) (-r) s = -fB a b c p q r s ∧ fA a (-b) c (-q) s = fA a b c q s := by
  unfold fA fB
  refine ⟨by grind, by grind, by grind⟩
theorem act_zero {f : Fm} {p q r s : Int} (d : p * s - q * r = 1) (e : (0, 0, 0) = actF f p q r s) : f = (0, 0, 0) := by
  have h := actF_inv f d
  rw [← e] at h
  rw [← h]
  refine fm_ext ?_ ?_ ?_
  · show fA 0 0 0 s (-r) = 0
    unfold fA
    grind
  · show fB 0 0 0 s (-q) (-r) p = 0
    unfold fB
    grind
  · show fA 0 0 0 (-q) p = 0
    unfold fA
    grind

/-- a class has one canonical form: for a form and the one that a matrix leads to -/
theorem gI_moved {p q n1 n2 n3 n4 : Int} (h : gI p q = 1) (d : n1 * n4 - n2 * n3 = 1) : gI (p * n1 + q * n3) (p * n2 + q * n4) = 1 := by
  unfold gI at *
  have h1 : ((Nat.gcd (p * n1 + q * n3).natAbs (p * n2 + q * n4).natAbs : Nat) : Int) ∣ p * n1 + q * n3 := Int.ofNat_dvd_left.mpr (Nat.gcd_dvd_left _ _)
  have h2 : ((Nat.gcd (p * n1 + q * n3).natAbs (p * n2 + q * n4).natAbs : Nat) : Int) ∣ p * n2 + q * n4 := Int.ofNat_dvd_left.mpr (Nat.gcd_dvd_right _ _)
  generalize hg : Nat.gcd (p * n1 + q * n3).natAbs (p * n2 + q * n4).natAbs = g at *
  obtain ⟨x, hx⟩ := h1
  obtain ⟨y, hy⟩ := h2
  have ep : p = (g : Int) * (x * n4 - y * n3) := by
    have : p * (n1 * n4 - n2 * n3) = (p * n1 + q * n3) * n4 - (p * n2 + q * n4) * n3 := by grind
    rw [d, Int.mul_one, hx, hy] at this
    rw [this]
    grind
  have eq : q = (g : Int) * (y * n1 - x * n2) := by
    have : q * (n1 * n4 - n2 * n3) = (p * n2 + q * n4) * n1 - (p * n1 + q * n3) * n2 := by grind
    rw [d, Int.mul_one, hx, hy] at this
    rw [this]
    grind
  have d1 : g ∣ p.natAbs := Int.ofNat_dvd_left.mp ⟨_, ep⟩
  have d2 : g ∣ q.natAbs := Int.ofNat_dvd_left.mp ⟨_, eq⟩
  have d3 := Nat.dvd_gcd d1 d2
  have e1 : Nat.gcd p.natAbs q.natAbs = 1 := by omega
  rw [e1] at d3
  rw [Nat.dvd_one.mp d3]
  rfl
theorem cn_moved {S : Srt} {a b c n1 n2 n3 n4 : Int} (I : InS S (a, b, c)) (d : n1 * n4 - n2 * n3 = 1) : ∃ S', InS S' (fA a b c n1 n3, fB a b c n1 n2 n3 n4, fA a b c n2 n4) ∧ ∀ h h', CnS S (a, b, c) h → CnS S' (fA a b c n1 n3, fB a b c n1 n2 n3 n4, fA a b c n2 n4) h' → h = h' := by
  have dd : dsc (fA a b c n1 n3) (fB a b c n1 n2 n3 n4) (fA a b c n2 n4) = dsc a b c := by rw [dsc_act, d, Int.mul_one, Int.mul_one]
  cases S with
  | d E g =>
    obtain ⟨hg, F⟩ := I
    have hg : (g = 1 ∧ 0 < a) ∨ (g = -1 ∧ a < 0) := hg
    have F : PF E (g * a) (g * b) (g * c) := F
    have hg1 := sg_or hg
    have hd := pf_dsc hg1 F
    have a0 := F.a0
    have E0 := F.e0
    have pos : 0 < g * fA a b c n1 n3 := by
      have e4 : 4 * (g * a) * (g * fA a b c n1 n3) = (2 * a * n1 + b * n3) * (2 * a * n1 + b * n3) + E * (n3 * n3) := by
        have hE : E = 4 * (a * c) - b * b := by
          have : dsc a b c = b * b - 4 * (a * c) := by
            unfold dsc
            rw [Int.mul_assoc]
          omega
        rw [hE]
        unfold fA
        rcases hg1 with rfl | rfl <;> grind
      have s1 := sqn (2 * a * n1 + b * n3)
      have s2 := sqn n3
      have s3 : 0 ≤ E * (n3 * n3) := Int.mul_nonneg (by omega) s2
      have rp : 0 < (2 * a * n1 + b * n3) * (2 * a * n1 + b * n3) + E * (n3 * n3) := by
        by_cases z : n3 = 0
        · subst z
          have n10 : n1 ≠ 0 := by
            rintro rfl
            rw [Int.zero_mul, Int.mul_zero] at d
            omega
          have ane : a ≠ 0 := by omega
          have : 2 * a * n1 + b * 0 ≠ 0 := by
            rw [Int.mul_zero, Int.add_zero, Int.mul_assoc]
            have := Int.mul_ne_zero ane n10
            omega
          have := Int.mul_ne_zero this this
          omega
        · have := Int.mul_ne_zero z z
          have : 0 < E * (n3 * n3) := Int.mul_pos E0 (by omega)
          omega
      rw [← e4] at rp
      by_cases w : 0 < g * fA a b c n1 n3
      · exact w
      · have := Int.mul_nonpos_of_nonneg_of_nonpos (show 0 ≤ 4 * (g * a) by omega) (show g * fA a b c n1 n3 ≤ 0 by omega)
        omega
    have hd' : dsc (fA a b c n1 n3) (fB a b c n1 n2 n3 n4) (fA a b c n2 n4) = -E := dd.trans hd
    have F' := pf_of hg1 hd' E0 F.e1 pos
    refine ⟨.d E g, ⟨?_, F'⟩, fun h h' C C' => ?_⟩
    · show (g = 1 ∧ 0 < fA a b c n1 n3) ∨ (g = -1 ∧ fA a b c n1 n3 < 0)
      rcases hg1 with rfl | rfl
      · exact .inl ⟨rfl, by omega⟩
      · exact .inr ⟨rfl, by omega⟩
    · obtain ⟨⟨p, q, r, s⟩, dm, e, R⟩ := C'
      have dm : p * s - q * r = 1 := dm
      have e : h' = actF (actF (a, b, c) n1 n2 n3 n4) p q r s := e
      rw [actF_mul] at e
      have C2 : CnS (.d E g) (a, b, c) h' := ⟨(n1 * p + n2 * r, n1 * q + n2 * s, n3 * p + n4 * r, n3 * q + n4 * s), det_mul d dm, e, R⟩
      exact cn_uniq (S := .d E g) ⟨hg, F⟩ C C2
  | i D =>
    obtain ⟨F, hD⟩ := I
    have F : IF D a b c := F
    refine ⟨.i D, ⟨⟨dd.trans F.d, F.d0, F.d1, F.ns⟩, hD⟩, fun h h' C C' => ?_⟩
    exact (canF_uniq (n := (n1, n2, n3, n4)) hD C C' d rfl).symm
  | s k =>
    obtain ⟨F, hk⟩ := I
    have F : SF k a b c := F
    refine ⟨.s k, ⟨⟨dd.trans F.d, F.k0⟩, hk⟩, fun h h' C C' => ?_⟩
    obtain ⟨c1, p, q, r, s, rfl, C⟩ := C
    obtain ⟨c2, p', q', r', s', rfl, C'⟩ := C'
    have e := cs_uniq F.k0 C d C'
    rw [e]
  | f g p q =>
    have R : FlatR a b c g p q := I
    rcases R with ⟨rfl, rfl, rfl, rfl, rfl, rfl⟩ | F
    · refine ⟨.f 0 1 0, .inl ⟨?_, ?_, ?_, rfl, rfl, rfl⟩, fun h h' C C' => (show h = (0, 0, 0) from C).trans (show h' = (0, 0, 0) from C').symm⟩
      · show fA 0 0 0 n1 n3 = 0
        unfold fA
        grind
      · show fB 0 0 0 n1 n2 n3 n4 = 0
        unfold fB
        grind
      · show fA 0 0 0 n2 n4 = 0
        unfold fA
        grind
    · have co := gI_moved F.co d
      have e1 : fA a b c n1 n3 = g * ((p * n1 + q * n3) * (p * n1 + q * n3)) := by
        rw [F.ea, F.eb, F.ec]
        unfold fA
        grind
      have e2 : fB a b c n1 n2 n3 n4 = 2 * (g * ((p * n1 + q * n3) * (p * n2 + q * n4))) := by
        rw [F.ea, F.eb, F.ec]
        unfold fB
        grind
      have e3 : fA a b c n2 n4 = g * ((p * n2 + q * n4) * (p * n2 + q * n4)) := by
        rw [F.ea, F.eb, F.ec]
        unfold fA
        grind
      generalize p * n1 + q * n3 = P at *
      generalize p * n2 + q * n4 = Q at *
      have sgn : (0 < P ∨ (P = 0 ∧ Q = 1)) ∨ (0 < -P ∨ (-P = 0 ∧ -Q = 1)) := by
        rcases Int.lt_trichotomy P 0 with w | w | w
        · exact .inr (.inl (by omega))
        · subst w
          unfold gI at co
          rw [show (0 : Int).natAbs = 0 from rfl, Nat.gcd_zero_left] at co
          rcases Int.natAbs_eq Q with h | h
          · exact .inl (.inr ⟨rfl, by omega⟩)
          · exact .inr (.inr ⟨rfl, by omega⟩)
        · exact .inl (.inl w)
      rcases sgn with sg | sg
      · exact ⟨.f g P Q, .inr ⟨e1, e2, e3, co, sg, F.g0⟩, fun h h' C C' => (show h = (g, 0, 0) from C).trans (show h' = (g, 0, 0) from C').symm⟩
      · refine ⟨.f g (-P) (-Q), .inr ⟨?_, ?_, ?_, ?_, sg, F.g0⟩, fun h h' C C' => (show h = (g, 0, 0) from C).trans (show h' = (g, 0, 0) from C').symm⟩
        · show fA a b c n1 n3 = g * (-P * -P)
          rw [e1, Int.neg_mul_neg]
        · show fB a b c n1 n2 n3 n4 = 2 * (g * (-P * -Q))
          rw [e2, Int.neg_mul_neg]
        · show fA a b c n2 n4 = g * (-Q * -Q)
          rw [e3, Int.neg_mul_neg]
        · unfold gI at *
          rw [Int.natAbs_neg, Int.natAbs_neg]
          exact co

/-! ### two rows of four numbers and their three forms -/
def rA (p q : M4) : Fm := (p.1 * q.2.1 - p.2.1 * q.1, p.1 * q.2.2.2 - p.2.2.2 * q.1 - p.2.1 * q.2.2.1 + p.2.2.1 * q.2.1, p.2.2.1 * q.2.2.2 - p.2.2.2 * q.2.2.1)
def rB (p q : M4) : Fm := (p.1 * q.2.2.1 - p.2.2.1 * q.1, p.1 * q.2.2.2 - p.2.2.2 * q.1 + p.2.1 * q.2.2.1 - p.2.2.1 * q.2.1, p.2.1 * q.2.2.2 - p.2.2.2 * q.2.1)
def rC (p q : M4) : Fm := (q.2.1 * q.2.2.1 - q.1 * q.2.2.2, p.1 * q.2.2.2 + p.2.2.2 * q.1 - p.2.1 * q.2.2.1 - p.2.2.1 * q.2.1, p.2.1 * p.2.2.1 - p.1 * p.2.2.2)
/-- h is composed of f and g by the rows p, q -/
structure Cmp (f g h : Fm) (p q : M4) : Prop where
  a : f = rA p q
  b : g = rB p q
  c : h = rC p q
/-- what a row gives at two points -/
def rowV (p : M4) (x y z w : Int) : Int := p.1 * (x * z) + p.2.1 * (x * w) + p.2.2.1 * (y * z) + p.2.2.2 * (y * w)
def wrt (f : Fm) (x y : Int) : Int := f.1 * x * x + f.2.1 * x * y + f.2.2 * y * y
theorem cmp_val {f g h : Fm} {p q : M4} (C : Cmp f g h p q) (x y z w : Int) : wrt h (rowV p x y z w) (rowV q x y z w) = wrt f x y * wrt g z w := by
  obtain ⟨rfl, rfl, rfl⟩ := C
  obtain ⟨p0, p1, p2, p3⟩ := p
  obtain ⟨q0, q1, q2, q3⟩ := q
  unfold wrt rowV rA rB rC
  grind
def dsF (f : Fm) : Int := dsc f.1 f.2.1 f.2.2
theorem cmp_ds {f g h : Fm} {p q : M4} (C : Cmp f g h p q) : dsF g = dsF f ∧ dsF h = dsF f := by
  obtain ⟨rfl, rfl, rfl⟩ := C
  obtain ⟨p0, p1, p2, p3⟩ := p
  obtain ⟨q0, q1, q2, q3⟩ := q
  unfold dsF dsc rA rB rC
  constructor <;> grind
/-- changes of the first, of the second, of the third form -/
def ch1 (m p : M4) : M4 := (m.1 * p.1 + m.2.2.1 * p.2.2.1, m.1 * p.2.1 + m.2.2.1 * p.2.2.2, m.2.1 * p.1 + m.2.2.2 * p.2.2.1, m.2.1 * p.2.1 + m.2.2.2 * p.2.2.2)
def ch2 (n p : M4) : M4 := (n.1 * p.1 + n.2.2.1 * p.2.1, n.2.1 * p.1 + n.2.2.2 * p.2.1, n.1 * p.2.2.1 + n.2.2.1 * p.2.2.2, n.2.1 * p.2.2.1 + n.2.2.2 * p.2.2.2)
def lin (s t : Int) (p q : M4) : M4 := (s * p.1 + t * q.1, s * p.2.1 + t * q.2.1, s * p.2.2.1 + t * q.2.2.1, s * p.2.2.2 + t * q.2.2.2)
theorem cmp_ch1 {f g h : Fm} {p q m : M4} (C : Cmp f g h p q) (d : detM m = 1) : Cmp (actM f m) g h (ch1 m p) (ch1 m q) := by
  obtain ⟨rfl, rfl, rfl⟩ := C
  obtain ⟨p0, p1, p2, p3⟩ := p
  obtain ⟨q0, q1, q2, q3⟩ := q
  obtain ⟨m1, m2, m3, m4⟩ := m
  have d : m1 * m4 - m2 * m3 = 1 := d
  refine ⟨?_, ?_, ?_⟩
  · unfold actM actF rA ch1
    refine fm_ext ?_ ?_ ?_ <;> (dsimp only; (try unfold fA); (try unfold fB); grind)
  · unfold rB ch1
    refine fm_ext ?_ ?_ ?_ <;> dsimp only
    · have : (p0 * q2 - p2 * q0) = (m1 * m4 - m2 * m3) * (p0 * q2 - p2 * q0) := by rw [d, Int.one_mul]
      rw [this]; grind
    · have : p0 * q3 - p3 * q0 + p1 * q2 - p2 * q1 = (m1 * m4 - m2 * m3) * (p0 * q3 - p3 * q0 + p1 * q2 - p2 * q1) := by rw [d, Int.one_mul]
      rw [this]; grind
    · have : p1 * q3 - p3 * q1 = (m1 * m4 - m2 * m3) * (p1 * q3 - p3 * q1) := by rw [d, Int.one_mul]
      rw [this]; grind
  · unfold rC ch1
    refine fm_ext ?_ ?_ ?_ <;> dsimp only
    · have : q1 * q2 - q0 * q3 = (m1 * m4 - m2 * m3) * (q1 * q2 - q0 * q3) := by rw [d, Int.one_mul]
      rw [this]; grind
    · have : p0 * q3 + p3 * q0 - p1 * q2 - p2 * q1 = (m1 * m4 - m2 * m3) * (p0 * q3 + p3 * q0 - p1 * q2 - p2 * q1) := by rw [d, Int.one_mul]
      rw [this]; grind
    · have : p1 * p2 - p0 * p3 = (m1 * m4 - m2 * m3) * (p1 * p2 - p0 * p3) := by rw [d, Int.one_mul]
      rw [this]; grind
/-- the two turned about -/
def swp (p : M4) : M4 := (p.1, p.2.2.1, p.2.1, p.2.2.2)
theorem cmp_comm {f g h : Fm} {p q : M4} (C : Cmp f g h p q) : Cmp g f h (swp p) (swp q) := by
  obtain ⟨rfl, rfl, rfl⟩ := C
  refine ⟨?_, ?_, ?_⟩ <;> (unfold swp; (try unfold rA); (try unfold rB); (try unfold rC); refine fm_ext ?_ ?_ ?_ <;> first | rfl | (dsimp only; grind))
theorem ch2_swp (n p : M4) : ch2 n p = swp (ch1 n (swp p)) := rfl
theorem swp_swp (p : M4) : swp (swp p) = p := rfl
theorem cmp_ch2 {f g h : Fm} {p q n : M4} (C : Cmp f g h p q) (d : detM n = 1) : Cmp f (actM g n) h (ch2 n p) (ch2 n q) := cmp_comm (cmp_ch1 (cmp_comm C) d)
theorem cmp_ch3 {f g h : Fm} {p q : M4} {s t u v : Int} (C : Cmp f g h p q) (d : s * v - t * u = 1) : Cmp f g (actF h v (-t) (-u) s) (lin s t p q) (lin u v p q) := by
  obtain ⟨rfl, rfl, rfl⟩ := C
  obtain ⟨p0, p1, p2, p3⟩ := p
  obtain ⟨q0, q1, q2, q3⟩ := q
  refine ⟨?_, ?_, ?_⟩
  · unfold rA lin
    refine fm_ext ?_ ?_ ?_ <;> dsimp only
    · have : p0 * q1 - p1 * q0 = (s * v - t * u) * (p0 * q1 - p1 * q0) := by rw [d, Int.one_mul]
      rw [this]; grind
    · have : p0 * q3 - p3 * q0 - p1 * q2 + p2 * q1 = (s * v - t * u) * (p0 * q3 - p3 * q0 - p1 * q2 + p2 * q1) := by rw [d, Int.one_mul]
      rw [this]; grind
    · have : p2 * q3 - p3 * q2 = (s * v - t * u) * (p2 * q3 - p3 * q2) := by rw [d, Int.one_mul]
      rw [this]; grind
  · unfold rB lin
    refine fm_ext ?_ ?_ ?_ <;> dsimp only
    · have : (p0 * q2 - p2 * q0) = (s * v - t * u) * (p0 * q2 - p2 * q0) := by rw [d, Int.one_mul]
      rw [this]; grind
    · have : p0 * q3 - p3 * q0 + p1 * q2 - p2 * q1 = (s * v - t * u) * (p0 * q3 - p3 * q0 + p1 * q2 - p2 * q1) := by rw [d, Int.one_mul]
      rw [this]; grind
    · have : p1 * q3 - p3 * q1 = (s * v - t * u) * (p1 * q3 - p3 * q1) := by rw [d, Int.one_mul]
      rw [this]; grind
  · unfold rC lin actF
    refine fm_ext ?_ ?_ ?_ <;> (dsimp only; (try unfold fA); (try unfold fB); grind)
/-! ### two tables of columns with the same minors -/
def mnS {α : Type} (p q : α → Int) (cs : List (Int × α × α)) : Int := (cs.map fun c => c.1 * (p c.2.1 * q c.2.2 - q c.2.1 * p c.2.2)).sum
theorem sl_lift {α : Type} (p q p' q' : α → Int) (hP : ∀ i j, p i * q j - q i * p j = p' i * q' j - q' i * p' j) : ∀ cs : List (Int × α × α),
    ∃ s t u v : Int, ∀ k, s * p k + t * q k = mnS p q cs * p' k ∧ u * p k + v * q k = mnS p q cs * q' k
  | [] => ⟨0, 0, 0, 0, fun k => ⟨by unfold mnS; simp, by unfold mnS; simp⟩⟩
  | (c, i, j) :: cs => by
    obtain ⟨s, t, u, v, h⟩ := sl_lift p q p' q' hP cs
    refine ⟨s + c * (q j * p' i - q i * p' j), t + c * (-p j * p' i + p i * p' j), u + c * (q j * q' i - q i * q' j), v + c * (-p j * q' i + p i * q' j), fun k => ?_⟩
    obtain ⟨h1, h2⟩ := h k
    have e : mnS p q ((c, i, j) :: cs) = c * (p i * q j - q i * p j) + mnS p q cs := rfl
    rw [e]
    have k1 := hP k i
    have k2 := hP k j
    have k3 := hP i j
    generalize mnS p q cs = M at *
    refine ⟨?_, ?_⟩
    · have a1 : (s + c * (q j * p' i - q i * p' j)) * p k + (t + c * (-p j * p' i + p i * p' j)) * q k = s * p k + t * q k + c * ((p k * q j - q k * p j) * p' i - (p k * q i - q k * p i) * p' j) := by grind
      rw [a1, h1, k1, k2, k3]
      grind
    · have a1 : (u + c * (q j * q' i - q i * q' j)) * p k + (v + c * (-p j * q' i + p i * q' j)) * q k = u * p k + v * q k + c * ((p k * q j - q k * p j) * q' i - (p k * q i - q k * p i) * q' j) := by grind
      rw [a1, h2, k1, k2, k3]
      grind
theorem mnS_scale {α : Type} {p q p' q' : α → Int} {e : Int} (h : ∀ i j, p' i * q' j - q' i * p' j = e * (p i * q j - q i * p j)) : ∀ cs, mnS p' q' cs = e * mnS p q cs
  | [] => by unfold mnS; simp
  | (c, i, j) :: cs => by
    have ih := mnS_scale h cs
    show c * (p' i * q' j - q' i * p' j) + mnS p' q' cs = e * (c * (p i * q j - q i * p j) + mnS p q cs)
    rw [ih, h]
    grind
theorem sl_two {α : Type} {p q p' q' : α → Int} (hP : ∀ i j, p i * q j - q i * p j = p' i * q' j - q' i * p' j) {cs : List (Int × α × α)} (h1 : mnS p q cs = 1) :
    ∃ s t u v : Int, s * v - t * u = 1 ∧ ∀ k, p' k = s * p k + t * q k ∧ q' k = u * p k + v * q k := by
  obtain ⟨s, t, u, v, h⟩ := sl_lift p q p' q' hP cs
  have h2 : ∀ k, p' k = s * p k + t * q k ∧ q' k = u * p k + v * q k := fun k => by
    obtain ⟨a, b⟩ := h k
    rw [h1, Int.one_mul] at a b
    exact ⟨a.symm, b.symm⟩
  refine ⟨s, t, u, v, ?_, h2⟩
  have e := mnS_scale (p := p) (q := q) (p' := p') (q' := q') (e := s * v - t * u) (fun i j => by
    rw [(h2 i).1, (h2 i).2, (h2 j).1, (h2 j).2]
    grind) cs
  have e2 := mnS_scale (p := p) (q := q) (p' := p') (q' := q') (e := 1) (fun i j => by rw [← hP, Int.one_mul]) cs
  rw [e2, h1] at e
  omega
def col (p : M4) : Bool → Bool → Int
  | false, false => p.1
  | false, true => p.2.1
  | true, false => p.2.2.1
  | true, true => p.2.2.2
/-- the minors, twice -/
def mnP (f g : Fm) : Bool → Bool → Bool → Bool → Int
  | false, false, false, true => 2 * f.1
  | false, true, false, false => -(2 * f.1)
  | false, false, true, false => 2 * g.1
  | true, false, false, false => -(2 * g.1)
  | false, true, true, true => 2 * g.2.2
  | true, true, false, true => -(2 * g.2.2)
  | true, false, true, true => 2 * f.2.2
  | true, true, true, false => -(2 * f.2.2)
  | false, false, true, true => f.2.1 + g.2.1
  | true, true, false, false => -(f.2.1 + g.2.1)
  | false, true, true, false => g.2.1 - f.2.1
  | true, false, false, true => -(g.2.1 - f.2.1)
  | _, _, _, _ => 0
theorem cmp_mn {f g h : Fm} {p q : M4} (C : Cmp f g h p q) (i j k l : Bool) : 2 * (col p i j * col q k l - col q i j * col p k l) = mnP f g i j k l := by
  obtain ⟨rfl, rfl, rfl⟩ := C
  obtain ⟨p0, p1, p2, p3⟩ := p
  obtain ⟨q0, q1, q2, q3⟩ := q
  cases i <;> cases j <;> cases k <;> cases l <;> simp only [mnP, col, rA, rB] <;> grind
/-- the values of h at the columns, polarized, twice -/
def poP (f g : Fm) (d : Int) : Bool → Bool → Bool → Bool → Int
  | false, false, false, false => 4 * f.1 * g.1
  | false, true, false, true => 4 * f.1 * g.2.2
  | true, false, true, false => 4 * f.2.2 * g.1
  | true, true, true, true => 4 * f.2.2 * g.2.2
  | false, false, false, true => 2 * f.1 * g.2.1
  | false, true, false, false => 2 * f.1 * g.2.1
  | false, false, true, false => 2 * f.2.1 * g.1
  | true, false, false, false => 2 * f.2.1 * g.1
  | false, true, true, true => 2 * f.2.1 * g.2.2
  | true, true, false, true => 2 * f.2.1 * g.2.2
  | true, false, true, true => 2 * f.2.2 * g.2.1
  | true, true, true, false => 2 * f.2.2 * g.2.1
  | false, false, true, true => f.2.1 * g.2.1 + d
  | true, true, false, false => f.2.1 * g.2.1 + d
  | false, true, true, false => f.2.1 * g.2.1 - d
  | true, false, false, true => f.2.1 * g.2.1 - d
theorem cmp_po {f g h : Fm} {p q : M4} (C : Cmp f g h p q) (i j k l : Bool) :
    2 * (2 * h.1 * (col p i j * col p k l) + h.2.1 * (col p i j * col q k l + col q i j * col p k l) + 2 * h.2.2 * (col q i j * col q k l)) = poP f g (dsF f) i j k l := by
  obtain ⟨rfl, rfl, rfl⟩ := C
  obtain ⟨p0, p1, p2, p3⟩ := p
  obtain ⟨q0, q1, q2, q3⟩ := q
  cases i <;> cases j <;> cases k <;> cases l <;> simp only [poP, col, rA, rB, rC, dsF, dsc] <;> grind
/-! ### no common measure -/
def Prm (f : Fm) : Prop := ∃ u v w : Int, u * f.1 + v * f.2.1 + w * f.2.2 = 1
theorem prm_act {f : Fm} {p q r s : Int} (h : Prm f) (d : p * s - q * r = 1) : Prm (actF f p q r s) := by
  have e := actF_inv f d
  obtain ⟨a, b, c⟩ := f
  generalize actF (a, b, c) p q r s = g at *
  obtain ⟨x, y, z⟩ := g
  obtain ⟨u, v, w, h⟩ := h
  have u1 : fA x y z s (-r) = a := congrArg (fun f : Fm => f.1) e
  have u2 : fB x y z s (-q) (-r) p = b := congrArg (fun f : Fm => f.2.1) e
  have u3 : fA x y z (-q) p = c := congrArg (fun f : Fm => f.2.2) e
  have h : u * a + v * b + w * c = 1 := h
  rw [← u1, ← u2, ← u3] at h
  refine ⟨u * s * s + v * (-2 * s * q) + w * (q * q), u * (-s * r) + v * (s * p + q * r) + w * (-q * p), u * r * r + v * (-2 * r * p) + w * (p * p), ?_⟩
  show _ * x + _ * y + _ * z = 1
  rw [← h]
  unfold fA fB
  grind
theorem m4_ext {p q : M4} (h : ∀ i j, col p i j = col q i j) : p = q :=
  Prod.ext (h false false) (Prod.ext (h false true) (Prod.ext (h true false) (h true true)))
theorem col_lin (s t : Int) (p q : M4) (i j : Bool) : col (lin s t p q) i j = s * col p i j + t * col q i j := by
  cases i <;> cases j <;> rfl
/-- TWO FORMS FIX THE CLASS OF WHAT IS COMPOSED OF THEM -/
theorem cmp_uniq {f g h h' : Fm} {p q p' q' : M4} (C : Cmp f g h p q) (C' : Cmp f g h' p' q') (P : Prm f) : ∃ s t u v : Int, s * v - t * u = 1 ∧ h' = actF h v (-t) (-u) s ∧ p' = lin s t p q ∧ q' = lin u v p q := by
  obtain ⟨u, v, w, hb⟩ := P
  have hP : ∀ i j : Bool × Bool, col p i.1 i.2 * col q j.1 j.2 - col q i.1 i.2 * col p j.1 j.2 = col p' i.1 i.2 * col q' j.1 j.2 - col q' i.1 i.2 * col p' j.1 j.2 := fun i j => by
    have h1 := cmp_mn C i.1 i.2 j.1 j.2
    have h2 := cmp_mn C' i.1 i.2 j.1 j.2
    omega
  have h1 : mnS (fun i : Bool × Bool => col p i.1 i.2) (fun i => col q i.1 i.2) [(u, (false, false), (false, true)), (w, (true, false), (true, true)), (v, (false, false), (true, true)), (-v, (false, true), (true, false))] = 1 := by
    have e := C.a
    obtain ⟨p0, p1, p2, p3⟩ := p
    obtain ⟨q0, q1, q2, q3⟩ := q
    rw [e] at hb
    rw [← hb]
    unfold mnS
    simp only [List.map_cons, List.map_nil, List.sum_cons, List.sum_nil, col, rA]
    grind
  obtain ⟨s, t, u', v', dd, hk⟩ := sl_two hP h1
  have e1 : p' = lin s t p q := m4_ext fun i j => by rw [col_lin]; exact (hk (i, j)).1
  have e2 : q' = lin u' v' p q := m4_ext fun i j => by rw [col_lin]; exact (hk (i, j)).2
  refine ⟨s, t, u', v', dd, ?_, e1, e2⟩
  rw [C'.c, e1, e2]
  exact (cmp_ch3 C dd).c.symm
/-! ### three forms -/
def mnL (f g h : Fm) (d : Int) (i j k i' j' k' : Bool) : Int :=
  match k, k' with
  | false, false => 2 * h.1 * mnP f g i j i' j'
  | true, true => 2 * h.2.2 * mnP f g i j i' j'
  | false, true => poP f g d i j i' j' + h.2.1 * mnP f g i j i' j'
  | true, false => -(poP f g d i' j' i j + h.2.1 * mnP f g i' j' i j)
def mnR (f g h : Fm) (d : Int) (i j k i' j' k' : Bool) : Int :=
  match i, i' with
  | false, false => 2 * f.1 * mnP g h j k j' k'
  | true, true => 2 * f.2.2 * mnP g h j k j' k'
  | false, true => poP g h d j k j' k' + f.2.1 * mnP g h j k j' k'
  | true, false => -(poP g h d j' k' j k + f.2.1 * mnP g h j' k' j k)
theorem mn_eq (f g h : Fm) (d : Int) (i j k i' j' k' : Bool) : mnL f g h d i j k i' j' k' = mnR f g h d i j k i' j' k' := by
  obtain ⟨a, b, c⟩ := f
  obtain ⟨a', b', c'⟩ := g
  obtain ⟨a2, b2, c2⟩ := h
  cases i <;> cases j <;> cases k <;> cases i' <;> cases j' <;> cases k' <;> simp only [mnL, mnR, mnP, poP] <;> grind
def tl (p q r : M4) (i j k : Bool) : Int := col p i j * col r false k + col q i j * col r true k
def tr (p q r : M4) (i j k : Bool) : Int := col p j k * col r i false + col q j k * col r i true
theorem mn_left {f g F h G : Fm} {p q r s : M4} (C : Cmp f g F p q) (D : Cmp F h G r s) (i j k i' j' k' : Bool) :
    4 * (tl p q r i j k * tl p q s i' j' k' - tl p q s i j k * tl p q r i' j' k') = mnL f g h (dsF f) i j k i' j' k' := by
  have m := cmp_mn C i j i' j'
  have m' := cmp_mn C i' j' i j
  have o := cmp_po C i j i' j'
  have o' := cmp_po C i' j' i j
  obtain ⟨a, b, c⟩ := F
  obtain ⟨a2, b2, c2⟩ := h
  have d1 := D.a
  have d2 := D.b
  obtain ⟨r0, r1, r2, r3⟩ := r
  obtain ⟨s0, s1, s2, s3⟩ := s
  have e1 : a = r0 * s1 - r1 * s0 := congrArg (fun f : Fm => f.1) d1
  have e2 : b = r0 * s3 - r3 * s0 - r1 * s2 + r2 * s1 := congrArg (fun f : Fm => f.2.1) d1
  have e3 : c = r2 * s3 - r3 * s2 := congrArg (fun f : Fm => f.2.2) d1
  have e4 : a2 = r0 * s2 - r2 * s0 := congrArg (fun f : Fm => f.1) d2
  have e5 : b2 = r0 * s3 - r3 * s0 + r1 * s2 - r2 * s1 := congrArg (fun f : Fm => f.2.1) d2
  have e6 : c2 = r1 * s3 - r3 * s1 := congrArg (fun f : Fm => f.2.2) d2
  unfold tl
  generalize col p i j = x at *
  generalize col q i j = y at *
  generalize col p i' j' = x' at *
  generalize col q i' j' = y' at *
  clear d1 d2 C D
  dsimp only at o o'
  cases k <;> cases k' <;> simp only [mnL, col]
  · rw [← m, e4]; grind
  · rw [← m, ← o, e1, e2, e3, e5]; grind
  · rw [← m', ← o', e1, e2, e3, e5]; grind
  · rw [← m, e6]; grind
theorem mn_right {f g F h G : Fm} {p q r s : M4} (C : Cmp g h F p q) (D : Cmp f F G r s) (i j k i' j' k' : Bool) :
    4 * (tr p q r i j k * tr p q s i' j' k' - tr p q s i j k * tr p q r i' j' k') = mnR f g h (dsF g) i j k i' j' k' := by
  have m := cmp_mn C j k j' k'
  have m' := cmp_mn C j' k' j k
  have o := cmp_po C j k j' k'
  have o' := cmp_po C j' k' j k
  obtain ⟨a, b, c⟩ := F
  obtain ⟨a2, b2, c2⟩ := f
  have d1 := D.b
  have d2 := D.a
  obtain ⟨r0, r1, r2, r3⟩ := r
  obtain ⟨s0, s1, s2, s3⟩ := s
  have e1 : a = r0 * s2 - r2 * s0 := congrArg (fun f : Fm => f.1) d1
  have e2 : b = r0 * s3 - r3 * s0 + r1 * s2 - r2 * s1 := congrArg (fun f : Fm => f.2.1) d1
  have e3 : c = r1 * s3 - r3 * s1 := congrArg (fun f : Fm => f.2.2) d1
  have e4 : a2 = r0 * s1 - r1 * s0 := congrArg (fun f : Fm => f.1) d2
  have e5 : b2 = r0 * s3 - r3 * s0 - r1 * s2 + r2 * s1 := congrArg (fun f : Fm => f.2.1) d2
  have e6 : c2 = r2 * s3 - r3 * s2 := congrArg (fun f : Fm => f.2.2) d2
  unfold tr
  generalize col p j k = x at *
  generalize col q j k = y at *
  generalize col p j' k' = x' at *
  generalize col q j' k' = y' at *
  clear d1 d2 C D
  dsimp only at o o'
  cases i <;> cases i' <;> simp only [mnR, col]
  · rw [← m, e4]; grind
  · rw [← m, ← o, e1, e2, e3, e5]; grind
  · rw [← m', ← o', e1, e2, e3, e5]; grind
  · rw [← m, e6]; grind
theorem actF_adj (f : Fm) (p q r s : Int) : actF (actF f p q r s) s (-q) (-r) p = ((p * s - q * r) * (p * s - q * r) * f.1, (p * s - q * r) * (p * s - q * r) * f.2.1, (p * s - q * r) * (p * s - q * r) * f.2.2) := by
  obtain ⟨a, b, c⟩ := f
  unfold actF
  refine fm_ext ?_ ?_ ?_ <;> (dsimp only; (try unfold fA); (try unfold fB); grind)
theorem sq_cancel {n x y : Int} (n0 : n ≠ 0) (h : n * n * x = n * n * y) : x = y := Int.eq_of_mul_eq_mul_left (Int.mul_ne_zero n0 n0) h
/-- a form that takes the values of another along a map of determinant not 0 is that other -/
theorem form_along {g g' : Fm} {p q r s : Int} (n0 : p * s - q * r ≠ 0) (h : actF g p q r s = actF g' p q r s) : g = g' := by
  have h1 := actF_adj g p q r s
  rw [h, actF_adj] at h1
  exact fm_ext (sq_cancel n0 (congrArg (fun f : Fm => f.1) h1)).symm (sq_cancel n0 (congrArg (fun f : Fm => f.2.1) h1)).symm (sq_cancel n0 (congrArg (fun f : Fm => f.2.2) h1)).symm
theorem act_vals {g : Fm} {p q r s u v w : Int} (h1 : wrt g p r = u) (h2 : wrt g q s = w) (h3 : wrt g (p + q) (r + s) = u + v + w) : actF g p q r s = (u, v, w) := by
  obtain ⟨a, b, c⟩ := g
  unfold wrt at h1 h2 h3
  dsimp only at h1 h2 h3
  refine fm_ext ?_ ?_ ?_
  · show fA a b c p r = u
    unfold fA
    exact h1
  · show fB a b c p q r s = v
    unfold fB
    grind
  · show fA a b c q s = w
    unfold fA
    exact h2
/-- COMPOSITION IS ASSOCIATIVE, BY CLASSES -/
theorem cmp_assoc {f g h F G F' G' : Fm} {p q r s p' q' r' s' : M4} (C : Cmp f g F p q) (D : Cmp F h G r s) (C' : Cmp g h F' p' q') (D' : Cmp f F' G' r' s') (P : Prm f) (P2 : Prm h) (n1 : g.1 ≠ 0) (n2 : h.1 ≠ 0) :
    ∃ m : M4, detM m = 1 ∧ G = actM G' m := by
  have dd : dsF g = dsF f := (cmp_ds C).1
  obtain ⟨u, v, w, hb⟩ := P
  obtain ⟨u2, v2, w2, hb2⟩ := P2
  have hP : ∀ i j : Bool × Bool × Bool, tl p q r i.1 i.2.1 i.2.2 * tl p q s j.1 j.2.1 j.2.2 - tl p q s i.1 i.2.1 i.2.2 * tl p q r j.1 j.2.1 j.2.2 = tr p' q' r' i.1 i.2.1 i.2.2 * tr p' q' s' j.1 j.2.1 j.2.2 - tr p' q' s' i.1 i.2.1 i.2.2 * tr p' q' r' j.1 j.2.1 j.2.2 := fun i j => by
    have h1 := mn_left C D i.1 i.2.1 i.2.2 j.1 j.2.1 j.2.2
    have h2 := mn_right C' D' i.1 i.2.1 i.2.2 j.1 j.2.1 j.2.2
    rw [dd, ← mn_eq, ← h1] at h2
    omega
  have h1 : mnS (fun i : Bool × Bool × Bool => tl p q r i.1 i.2.1 i.2.2) (fun i => tl p q s i.1 i.2.1 i.2.2)
      [(u * u2, (false, false, false), (false, true, false)), (u * w2, (false, false, true), (false, true, true)), (u * v2, (false, false, false), (false, true, true)), (-(u * v2), (false, true, false), (false, false, true)),
       (w * u2, (true, false, false), (true, true, false)), (w * w2, (true, false, true), (true, true, true)), (w * v2, (true, false, false), (true, true, true)), (-(w * v2), (true, true, false), (true, false, true)),
       (v * u2, (false, false, false), (true, true, false)), (v * w2, (false, false, true), (true, true, true)), (v * v2, (false, false, false), (true, true, true)), (-(v * v2), (true, true, false), (false, false, true)),
       (-v * u2, (false, true, false), (true, false, false)), (-v * w2, (false, true, true), (true, false, true)), (-v * v2, (false, true, false), (true, false, true)), (v * v2, (true, false, false), (false, true, true))] = 1 := by
    have e : ∀ i j k i' j' k' : Bool, tl p q r i j k * tl p q s i' j' k' - tl p q s i j k * tl p q r i' j' k' = mnL f g h (dsF f) i j k i' j' k' / 4 := fun i j k i' j' k' => by
      rw [← mn_left C D]
      exact (Int.mul_ediv_cancel_left _ (by decide)).symm
    have e4 : ∀ i j k i' j' k' : Bool, 4 * (tl p q r i j k * tl p q s i' j' k' - tl p q s i j k * tl p q r i' j' k') = mnL f g h (dsF f) i j k i' j' k' := fun i j k i' j' k' => mn_left C D i j k i' j' k'
    have k1 := e4 false false false false true false
    have k2 := e4 false false true false true true
    have k3 := e4 false false false false true true
    have k4 := e4 false true false false false true
    have k5 := e4 true false false true true false
    have k6 := e4 true false true true true true
    have k7 := e4 true false false true true true
    have k8 := e4 true true false true false true
    have k9 := e4 false false false true true false
    have k10 := e4 false false true true true true
    have k11 := e4 false false false true true true
    have k12 := e4 true true false false false true
    have k13 := e4 false true false true false false
    have k14 := e4 false true true true false true
    have k15 := e4 false true false true false true
    have k16 := e4 true false false false true true
    clear e e4 hP C D C' D'
    generalize dsF f = d at *
    obtain ⟨a, b, c⟩ := f
    obtain ⟨a', b', c'⟩ := g
    obtain ⟨a2, b2, c2⟩ := h
    simp only [mnL, mnP, poP] at k1 k2 k3 k4 k5 k6 k7 k8 k9 k10 k11 k12 k13 k14 k15 k16
    unfold mnS
    simp only [List.map_cons, List.map_nil, List.sum_cons, List.sum_nil]
    have hb : u * a + v * b + w * c = 1 := hb
    have hb2 : u2 * a2 + v2 * b2 + w2 * c2 = 1 := hb2
    have hh : (u * a + v * b + w * c) * (u2 * a2 + v2 * b2 + w2 * c2) = 1 := by rw [hb, hb2]; rfl
    generalize tl p q r false false false * tl p q s false true false - tl p q s false false false * tl p q r false true false = y1 at *
    generalize tl p q r false false true * tl p q s false true true - tl p q s false false true * tl p q r false true true = y2 at *
    generalize tl p q r false false false * tl p q s false true true - tl p q s false false false * tl p q r false true true = y3 at *
    generalize tl p q r false true false * tl p q s false false true - tl p q s false true false * tl p q r false false true = y4 at *
    generalize tl p q r true false false * tl p q s true true false - tl p q s true false false * tl p q r true true false = y5 at *
    generalize tl p q r true false true * tl p q s true true true - tl p q s true false true * tl p q r true true true = y6 at *
    generalize tl p q r true false false * tl p q s true true true - tl p q s true false false * tl p q r true true true = y7 at *
    generalize tl p q r true true false * tl p q s true false true - tl p q s true true false * tl p q r true false true = y8 at *
    generalize tl p q r false false false * tl p q s true true false - tl p q s false false false * tl p q r true true false = y9 at *
    generalize tl p q r false false true * tl p q s true true true - tl p q s false false true * tl p q r true true true = y10 at *
    generalize tl p q r false false false * tl p q s true true true - tl p q s false false false * tl p q r true true true = y11 at *
    generalize tl p q r true true false * tl p q s false false true - tl p q s true true false * tl p q r false false true = y12 at *
    generalize tl p q r false true false * tl p q s true false false - tl p q s false true false * tl p q r true false false = y13 at *
    generalize tl p q r false true true * tl p q s true false true - tl p q s false true true * tl p q r true false true = y14 at *
    generalize tl p q r false true false * tl p q s true false true - tl p q s false true false * tl p q r true false true = y15 at *
    generalize tl p q r true false false * tl p q s false true true - tl p q s true false false * tl p q r false true true = y16 at *
    have e4 : 4 * (u * u2 * y1 + u * w2 * y2 + u * v2 * y3 + -(u * v2) * y4 + w * u2 * y5 + w * w2 * y6 + w * v2 * y7 + -(w * v2) * y8 + v * u2 * y9 + v * w2 * y10 + v * v2 * y11 + -(v * v2) * y12 + -v * u2 * y13 + -v * w2 * y14 + -v * v2 * y15 + v * v2 * y16) = u * u2 * (4 * y1) + u * w2 * (4 * y2) + u * v2 * (4 * y3) + -(u * v2) * (4 * y4) + w * u2 * (4 * y5) + w * w2 * (4 * y6) + w * v2 * (4 * y7) + -(w * v2) * (4 * y8) + v * u2 * (4 * y9) + v * w2 * (4 * y10) + v * v2 * (4 * y11) + -(v * v2) * (4 * y12) + -v * u2 * (4 * y13) + -v * w2 * (4 * y14) + -v * v2 * (4 * y15) + v * v2 * (4 * y16) := by grind
    rw [k1, k2, k3, k4, k5, k6, k7, k8, k9, k10, k11, k12, k13, k14, k15, k16] at e4
    have e5 : 4 * (u * u2 * y1 + u * w2 * y2 + u * v2 * y3 + -(u * v2) * y4 + w * u2 * y5 + w * w2 * y6 + w * v2 * y7 + -(w * v2) * y8 + v * u2 * y9 + v * w2 * y10 + v * v2 * y11 + -(v * v2) * y12 + -v * u2 * y13 + -v * w2 * y14 + -v * v2 * y15 + v * v2 * y16) = 4 * ((u * a + v * b + w * c) * (u2 * a2 + v2 * b2 + w2 * c2)) := by
      rw [e4]
      grind
    rw [hh] at e5
    have e6 : u * u2 * y1 + u * w2 * y2 + u * v2 * y3 + -(u * v2) * y4 + w * u2 * y5 + w * w2 * y6 + w * v2 * y7 + -(w * v2) * y8 + v * u2 * y9 + v * w2 * y10 + v * v2 * y11 + -(v * v2) * y12 + -v * u2 * y13 + -v * w2 * y14 + -v * v2 * y15 + v * v2 * y16 = 1 := by omega
    rw [← e6]
    grind
  obtain ⟨S, T, U, V, det, hk⟩ := sl_two hP h1
  refine ⟨(S, T, U, V), det, ?_⟩
  have n3 : tl p q r false false false * tl p q s true false false - tl p q r true false false * tl p q s false false false ≠ 0 := by
    have e := mn_left C D false false false true false false
    simp only [mnL, mnP] at e
    have := Int.mul_ne_zero n1 n2
    intro z
    have e2 : 4 * (tl p q r false false false * tl p q s true false false - tl p q s false false false * tl p q r true false false) = 4 * (g.1 * h.1) := by rw [e]; grind
    rw [Int.mul_comm (tl p q s false false false)] at e2
    omega
  have vl : ∀ x y : Int, wrt G (x * tl p q r false false false + y * tl p q r true false false) (x * tl p q s false false false + y * tl p q s true false false) = wrt f x y * g.1 * h.1 := fun x y => by
    have e1 := cmp_val C x y 1 0
    have e2 := cmp_val D (rowV p x y 1 0) (rowV q x y 1 0) 1 0
    rw [e1] at e2
    have g1 : wrt g 1 0 = g.1 := by unfold wrt; grind
    have h1 : wrt h 1 0 = h.1 := by unfold wrt; grind
    rw [g1, h1] at e2
    rw [← e2]
    congr 1
    · simp only [rowV, tl, col]; grind
    · simp only [rowV, tl, col]; grind
  have vr : ∀ x y : Int, wrt G' (x * tr p' q' r' false false false + y * tr p' q' r' true false false) (x * tr p' q' s' false false false + y * tr p' q' s' true false false) = wrt f x y * g.1 * h.1 := fun x y => by
    have e1 := cmp_val C' 1 0 1 0
    have e2 := cmp_val D' x y (rowV p' 1 0 1 0) (rowV q' 1 0 1 0)
    rw [e1] at e2
    have g1 : wrt g 1 0 = g.1 := by unfold wrt; grind
    have h1 : wrt h 1 0 = h.1 := by unfold wrt; grind
    rw [g1, h1, ← Int.mul_assoc] at e2
    rw [← e2]
    congr 1
    · simp only [rowV, tr, col]; grind
    · simp only [rowV, tr, col]; grind
  have a1 : wrt f 1 0 = f.1 := by unfold wrt; grind
  have a2 : wrt f 0 1 = f.2.2 := by unfold wrt; grind
  have a3 : wrt f 1 1 = f.1 + f.2.1 + f.2.2 := by unfold wrt; grind
  have hl := act_vals (g := G) (p := tl p q r false false false) (q := tl p q r true false false) (r := tl p q s false false false) (s := tl p q s true false false) (u := f.1 * g.1 * h.1) (v := f.2.1 * g.1 * h.1) (w := f.2.2 * g.1 * h.1)
    (by have := vl 1 0; rw [a1] at this; rw [← this]; congr 1 <;> grind) (by have := vl 0 1; rw [a2] at this; rw [← this]; congr 1 <;> grind) (by have := vl 1 1; rw [a3] at this; rw [show f.1 * g.1 * h.1 + f.2.1 * g.1 * h.1 + f.2.2 * g.1 * h.1 = (f.1 + f.2.1 + f.2.2) * g.1 * h.1 by grind, ← this]; congr 1 <;> grind)
  have hr := act_vals (g := G') (p := tr p' q' r' false false false) (q := tr p' q' r' true false false) (r := tr p' q' s' false false false) (s := tr p' q' s' true false false) (u := f.1 * g.1 * h.1) (v := f.2.1 * g.1 * h.1) (w := f.2.2 * g.1 * h.1)
    (by have := vr 1 0; rw [a1] at this; rw [← this]; congr 1 <;> grind) (by have := vr 0 1; rw [a2] at this; rw [← this]; congr 1 <;> grind) (by have := vr 1 1; rw [a3] at this; rw [show f.1 * g.1 * h.1 + f.2.1 * g.1 * h.1 + f.2.2 * g.1 * h.1 = (f.1 + f.2.1 + f.2.2) * g.1 * h.1 by grind, ← this]; congr 1 <;> grind)
  refine form_along n3 ?_
  show actF G _ _ _ _ = actF (actF G' S T U V) _ _ _ _
  rw [hl, actF_mul]
  obtain ⟨b1, b2⟩ := hk (false, false, false)
  obtain ⟨b3, b4⟩ := hk (true, false, false)
  dsimp only at b1 b2 b3 b4
  rw [← b1, ← b2, ← b3, ← b4]
  exact hr.symm
/-! ### one, and the opposite -/
/-- united forms -/
theorem cmp_unit (a a' b c : Int) : Cmp (a, b, a' * c) (a', b, a * c) (a * a', b, c) (1, 0, 0, -c) (0, a, a', b) := by
  refine ⟨?_, ?_, ?_⟩ <;> (refine fm_ext ?_ ?_ ?_ <;> simp only [rA, rB, rC] <;> grind)
theorem cmp_one {a b c : Int} : Cmp (a, b, c) (1, b, a * c) (a, b, c) (1, 0, 0, -c) (0, a, 1, b) := by
  have h := cmp_unit a 1 b c
  rw [Int.one_mul, Int.mul_one] at h
  exact h
theorem cmp_opp {a b c : Int} : Cmp (a, b, c) (c, b, a) (a * c, b, 1) (1, 0, 0, -1) (0, a, c, b) := by
  have h := cmp_unit a c b 1
  rw [Int.mul_one, Int.mul_one] at h
  exact h
namespace R
theorem asg2 {te : TE} {g1 g2 : TG} {σ : L2.St} {H : Hp} {nx : L2.St → Hp → Prop} {rt : VK} {bk ct : L2.St → Hp → Prop} (h : te σ H fun x H1 => g1 x σ H1 fun σ1 H2 => g2 x σ1 H2 nx) : tAsg2 te g1 g2 (Ends.mk nx rt bk ct) σ H := h
end R
theorem bez_ex : ∀ (n a b : Nat), b ≤ n → ∃ u v : Int, u * (a : Int) + v * (b : Int) = ((Nat.gcd a b : Nat) : Int)
  | 0, a, b, h => ⟨1, 0, by
    have e : b = 0 := by omega
    rw [e, Nat.gcd_zero_right]
    omega⟩
  | n + 1, a, b, h => by
    by_cases e : b = 0
    · exact ⟨1, 0, by rw [e, Nat.gcd_zero_right]; omega⟩
    · obtain ⟨u, v, huv⟩ := bez_ex n b (a % b) (by have := Nat.mod_lt a (show 0 < b by omega); omega)
      refine ⟨v, u - v * ((a / b : Nat) : Int), ?_⟩
      have e1 : Nat.gcd b (a % b) = Nat.gcd a b := by rw [Nat.gcd_comm b, ← Nat.gcd_rec, Nat.gcd_comm]
      rw [e1] at huv
      rw [← huv]
      have e2 : (a : Int) = (b : Int) * ((a / b : Nat) : Int) + ((a % b : Nat) : Int) := by
        rw [← Int.natCast_mul, ← Int.natCast_add, Nat.div_add_mod]
      generalize ((a / b : Nat) : Int) = q at e2 ⊢
      generalize ((a % b : Nat) : Int) = r at e2 ⊢
      rw [e2]
      grind

/-- p is prime: what is below has no measure with it -/
structure EP (p : Nat) : Prop where
  two : 2 ≤ p
  co : ∀ k, 1 ≤ k → k < p → Nat.gcd p k = 1
def epB (p : Nat) : Bool := Nat.ble 2 p && (List.range p).all fun k => k.beq 0 || (Nat.gcd p k).beq 1
theorem ep_of {p : Nat} (h : epB p = true) : EP p := by
  unfold epB at h
  rw [Bool.and_eq_true] at h
  refine ⟨Nat.le_of_ble_eq_true h.1, fun k h1 h2 => ?_⟩
  have a := List.all_eq_true.mp h.2 k (List.mem_range.mpr h2)
  rw [Bool.or_eq_true] at a
  rcases a with a | a
  · have := Nat.eq_of_beq_eq_true a
    omega
  · exact Nat.eq_of_beq_eq_true a
theorem EP.cop {p : Nat} (h : EP p) {x : Nat} (hx : ¬ p ∣ x) : Nat.gcd p x = 1 := by
  have p0 := h.two
  have e : Nat.gcd p x = Nat.gcd p (x % p) := by
    rw [Nat.gcd_rec, Nat.gcd_comm]
  have h2 := Nat.mod_lt x (show 0 < p by omega)
  have h3 : x % p ≠ 0 := fun z => hx (Nat.dvd_of_mod_eq_zero z)
  rw [e]
  exact h.co _ (by omega) h2
theorem EP.euclid {p : Nat} (h : EP p) {x y : Int} (hd : (p : Int) ∣ x * y) : (p : Int) ∣ x ∨ (p : Int) ∣ y := by
  by_cases z : (p : Int) ∣ x
  · exact .inl z
  · right
    have z2 : ¬ p ∣ x.natAbs := fun w => z (Int.ofNat_dvd_left.mpr w)
    have hd2 : p ∣ x.natAbs * y.natAbs := by
      rw [← Int.natAbs_mul]
      exact Int.ofNat_dvd_left.mp hd
    exact Int.ofNat_dvd_left.mpr (Nat.Coprime.dvd_of_dvd_mul_left (h.cop z2) hd2)
theorem EP.eq {p q : Nat} (h : EP p) (g : EP q) (hd : (p : Int) ∣ (q : Int)) : p = q := by
  have hd2 : p ∣ q := Int.ofNat_dvd.mp hd
  have p0 := h.two
  have q0 := g.two
  by_cases z : p = q
  · exact z
  · have l := Nat.le_of_dvd (by omega) hd2
    have e := g.co p (by omega) (by omega)
    rw [Nat.gcd_comm, Nat.gcd_eq_left hd2] at e
    omega
/-- the walk of point_apart -/
def ptS (a c : Int) (s : Int × Int) (p : Nat) : Int × Int := if a % (p : Int) = 0 then (if c % (p : Int) = 0 then s else (s.1 * (p : Int), s.2)) else (s.1, s.2 * (p : Int))
def ptF (a c : Int) (ps : List Nat) : Int × Int := ps.foldl (ptS a c) (1, 1)
theorem dvd_mod {a : Int} {p : Nat} : a % (p : Int) = 0 ↔ (p : Int) ∣ a := ⟨Int.dvd_of_emod_eq_zero, Int.emod_eq_zero_of_dvd⟩
theorem pt_spec {a c : Int} {p : Nat} (h : EP p) : ∀ (ps : List Nat) (s : Int × Int), (∀ q ∈ ps, EP q) →
    (((p : Int) ∣ (ps.foldl (ptS a c) s).1 ↔ ((p : Int) ∣ s.1 ∨ (p ∈ ps ∧ (p : Int) ∣ a ∧ ¬ (p : Int) ∣ c))) ∧ ((p : Int) ∣ (ps.foldl (ptS a c) s).2 ↔ ((p : Int) ∣ s.2 ∨ (p ∈ ps ∧ ¬ (p : Int) ∣ a))))
  | [], s, _ => by
    refine ⟨⟨fun z => .inl z, fun z => z.resolve_right fun w => nomatch w.1⟩, ⟨fun z => .inl z, fun z => z.resolve_right fun w => nomatch w.1⟩⟩
  | q :: ps, s, hq => by
    obtain ⟨i1, i2⟩ := pt_spec (a := a) (c := c) h ps (ptS a c s q) (fun x hx => hq x (List.mem_cons_of_mem _ hx))
    have eq1 := hq q List.mem_cons_self
    have hm : ∀ x : Int, (p : Int) ∣ x * (q : Int) ↔ (p : Int) ∣ x ∨ p = q := fun x => by
      constructor
      · intro z
        rcases h.euclid z with z | z
        · exact .inl z
        · exact .inr (h.eq eq1 z)
      · rintro (z | rfl)
        · exact Int.dvd_trans z ⟨_, rfl⟩
        · exact ⟨x, Int.mul_comm _ _⟩
    rw [List.foldl_cons, i1, i2]
    unfold ptS
    by_cases ha : a % (q : Int) = 0
    · rw [if_pos ha]
      have ha' := dvd_mod.mp ha
      by_cases hc : c % (q : Int) = 0
      · rw [if_pos hc]
        have hc' := dvd_mod.mp hc
        constructor
        · constructor
          · rintro (z | ⟨z1, z2⟩)
            · exact .inl z
            · exact .inr ⟨List.mem_cons_of_mem _ z1, z2⟩
          · rintro (z | ⟨z1, z2, z3⟩)
            · exact .inl z
            · rcases List.mem_cons.mp z1 with rfl | z1
              · exact absurd hc' z3
              · exact .inr ⟨z1, z2, z3⟩
        · constructor
          · rintro (z | ⟨z1, z2⟩)
            · exact .inl z
            · exact .inr ⟨List.mem_cons_of_mem _ z1, z2⟩
          · rintro (z | ⟨z1, z2⟩)
            · exact .inl z
            · rcases List.mem_cons.mp z1 with rfl | z1
              · exact absurd ha' z2
              · exact .inr ⟨z1, z2⟩
      · rw [if_neg hc]
        have hc' : ¬ (q : Int) ∣ c := fun z => hc (dvd_mod.mpr z)
        constructor
        · rw [hm]
          constructor
          · rintro ((z | rfl) | ⟨z1, z2⟩)
            · exact .inl z
            · exact .inr ⟨List.mem_cons_self, ha', hc'⟩
            · exact .inr ⟨List.mem_cons_of_mem _ z1, z2⟩
          · rintro (z | ⟨z1, z2, z3⟩)
            · exact .inl (.inl z)
            · rcases List.mem_cons.mp z1 with z1 | z1
              · exact .inl (.inr z1)
              · exact .inr ⟨z1, z2, z3⟩
        · constructor
          · rintro (z | ⟨z1, z2⟩)
            · exact .inl z
            · exact .inr ⟨List.mem_cons_of_mem _ z1, z2⟩
          · rintro (z | ⟨z1, z2⟩)
            · exact .inl z
            · rcases List.mem_cons.mp z1 with rfl | z1
              · exact absurd ha' z2
              · exact .inr ⟨z1, z2⟩
    · rw [if_neg ha]
      have ha' : ¬ (q : Int) ∣ a := fun z => ha (dvd_mod.mpr z)
      constructor
      · constructor
        · rintro (z | ⟨z1, z2⟩)
          · exact .inl z
          · exact .inr ⟨List.mem_cons_of_mem _ z1, z2⟩
        · rintro (z | ⟨z1, z2, z3⟩)
          · exact .inl z
          · rcases List.mem_cons.mp z1 with rfl | z1
            · exact absurd z2 ha'
            · exact .inr ⟨z1, z2, z3⟩
      · rw [hm]
        constructor
        · rintro ((z | rfl) | ⟨z1, z2⟩)
          · exact .inl z
          · exact .inr ⟨List.mem_cons_self, ha'⟩
          · exact .inr ⟨List.mem_cons_of_mem _ z1, z2⟩
        · rintro (z | ⟨z1, z2⟩)
          · exact .inl (.inl z)
          · rcases List.mem_cons.mp z1 with z1 | z1
            · exact .inl (.inr z1)
            · exact .inr ⟨z1, z2⟩
/-- the number of the walk has no measure with these primes -/
theorem pt_apart {a b c : Int} {ps : List Nat} (hp : ∀ q ∈ ps, EP q) {p : Nat} (h : p ∈ ps) (hn : ¬ ((p : Int) ∣ a ∧ (p : Int) ∣ b ∧ (p : Int) ∣ c)) : ¬ (p : Int) ∣ fA a b c (ptF a c ps).1 (ptF a c ps).2 := by
  have ep := hp p h
  obtain ⟨i1, i2⟩ := pt_spec (a := a) (c := c) ep ps (1, 1) hp
  have no1 : ¬ (p : Int) ∣ 1 := fun z => by
    have := Int.ofNat_dvd.mp (show (p : Int) ∣ ((1 : Nat) : Int) from z)
    have := Nat.dvd_one.mp this
    have := ep.two
    omega
  change ((p : Int) ∣ (ptF a c ps).1 ↔ _) at i1
  change ((p : Int) ∣ (ptF a c ps).2 ↔ _) at i2
  generalize ptF a c ps = s at *
  obtain ⟨X, Y⟩ := s
  dsimp only at *
  intro hd
  unfold fA at hd
  by_cases ha : (p : Int) ∣ a
  · have hY : ¬ (p : Int) ∣ Y := fun z => (i2.mp z).elim no1 fun w => w.2 ha
    by_cases hc : (p : Int) ∣ c
    · have hX : ¬ (p : Int) ∣ X := fun z => (i1.mp z).elim no1 fun w => w.2.2 hc
      have d1 : (p : Int) ∣ a * X * X := Int.dvd_trans ha ⟨X * X, by rw [Int.mul_assoc]⟩
      have d2 : (p : Int) ∣ c * Y * Y := Int.dvd_trans hc ⟨Y * Y, by rw [Int.mul_assoc]⟩
      have d3 : (p : Int) ∣ b * X * Y := by
        have := Int.dvd_sub (Int.dvd_sub hd d1) d2
        rwa [show a * X * X + b * X * Y + c * Y * Y - a * X * X - c * Y * Y = b * X * Y by omega] at this
      rcases ep.euclid d3 with z | z
      · rcases ep.euclid z with z | z
        · exact hn ⟨ha, z, hc⟩
        · exact hX z
      · exact hY z
    · have hX : (p : Int) ∣ X := i1.mpr (.inr ⟨h, ha, hc⟩)
      have d1 : (p : Int) ∣ a * X * X := Int.dvd_trans ha ⟨X * X, by rw [Int.mul_assoc]⟩
      have d2 : (p : Int) ∣ b * X * Y := Int.dvd_trans hX ⟨b * Y, by grind⟩
      have d3 : (p : Int) ∣ c * Y * Y := by
        have := Int.dvd_sub (Int.dvd_sub hd d1) d2
        rwa [show a * X * X + b * X * Y + c * Y * Y - a * X * X - b * X * Y = c * Y * Y by omega] at this
      rcases ep.euclid d3 with z | z
      · rcases ep.euclid z with z | z
        · exact hc z
        · exact hY z
      · exact hY z
  · have hY : (p : Int) ∣ Y := i2.mpr (.inr ⟨h, ha⟩)
    have hX : ¬ (p : Int) ∣ X := fun z => (i1.mp z).elim no1 fun w => ha w.2.1
    have d1 : (p : Int) ∣ c * Y * Y := Int.dvd_trans hY ⟨c * Y, by grind⟩
    have d2 : (p : Int) ∣ b * X * Y := Int.dvd_trans hY ⟨b * X, by grind⟩
    have d3 : (p : Int) ∣ a * X * X := by
      have := Int.dvd_sub (Int.dvd_sub hd d1) d2
      rwa [show a * X * X + b * X * Y + c * Y * Y - c * Y * Y - b * X * Y = a * X * X by omega] at this
    rcases ep.euclid d3 with z | z
    · rcases ep.euclid z with z | z
      · exact ha z
      · exact hX z
    · exact hX z
/-- sizes of the walk -/
theorem pt_size {a c : Int} : ∀ (ps : List Nat) (s : Int × Int) (t : Nat), (∀ q ∈ ps, 1 ≤ q) → s.1.natAbs ≤ t → s.2.natAbs ≤ t → (ps.foldl (ptS a c) s).1.natAbs ≤ ps.foldl (· * ·) t ∧ (ps.foldl (ptS a c) s).2.natAbs ≤ ps.foldl (· * ·) t
  | [], s, t, _, h1, h2 => ⟨h1, h2⟩
  | q :: ps, s, t, hq, h1, h2 => by
    have q1 := hq q List.mem_cons_self
    have l : t ≤ t * q := Nat.le_mul_of_pos_right _ (by omega)
    rw [List.foldl_cons, List.foldl_cons]
    refine pt_size ps _ _ (fun x hx => hq x (List.mem_cons_of_mem _ hx)) ?_ ?_
    · unfold ptS
      split
      · split
        · omega
        · show (s.1 * (q : Int)).natAbs ≤ t * q
          rw [Int.natAbs_mul, Int.natAbs_natCast]
          exact Nat.mul_le_mul_right _ h1
      · exact Nat.le_trans h1 l
    · unfold ptS
      split
      · split
        · omega
        · exact Nat.le_trans h2 l
      · show (s.2 * (q : Int)).natAbs ≤ t * q
        rw [Int.natAbs_mul, Int.natAbs_natCast]
        exact Nat.mul_le_mul_right _ h2
theorem prod_bd : ∀ (ps : List Nat) (t k : Nat), (∀ q ∈ ps, q < 1000) → t < 2 ^ (10 * k + 1) → ps.foldl (· * ·) t < 2 ^ (10 * (k + ps.length) + 1)
  | [], t, k, _, h => h
  | q :: ps, t, k, hq, h => by
    have q1 := hq q List.mem_cons_self
    rw [List.foldl_cons, List.length_cons, show k + (ps.length + 1) = k + 1 + ps.length by omega]
    refine prod_bd ps _ (k + 1) (fun x hx => hq x (List.mem_cons_of_mem _ hx)) ?_
    have e : (2 : Nat) ^ (10 * (k + 1) + 1) = 2 ^ (10 * k + 1) * 2 ^ 10 := by
      rw [← Nat.pow_add, show 10 * k + 1 + 10 = 10 * (k + 1) + 1 by omega]
    rw [e]
    exact Nat.mul_lt_mul'' h (Nat.lt_trans q1 (by decide))
theorem bez_int (a b : Int) : ∃ u v : Int, u * a + v * b = ((Nat.gcd a.natAbs b.natAbs : Nat) : Int) := by
  obtain ⟨u, v, h⟩ := bez_ex b.natAbs a.natAbs b.natAbs (Nat.le_refl _)
  rcases Int.natAbs_eq a with ha | ha <;> rcases Int.natAbs_eq b with hb | hb
  · exact ⟨u, v, by rw [ha, hb, Int.natAbs_natCast, Int.natAbs_natCast]; exact h⟩
  · exact ⟨u, -v, by rw [ha, hb, Int.natAbs_neg, Int.natAbs_natCast, Int.natAbs_natCast, Int.neg_mul_neg]; exact h⟩
  · exact ⟨-u, v, by rw [ha, hb, Int.natAbs_neg, Int.natAbs_natCast, Int.natAbs_natCast, Int.neg_mul_neg]; exact h⟩
  · exact ⟨-u, -v, by rw [ha, hb, Int.natAbs_neg, Int.natAbs_neg, Int.natAbs_natCast, Int.natAbs_natCast, Int.neg_mul_neg, Int.neg_mul_neg]; exact h⟩
theorem bez_three (a b c : Int) : ∃ u v w : Int, u * a + v * b + w * c = gL [a, b, c] := by
  rw [gL_three]
  obtain ⟨u, v, h⟩ := bez_int a b
  obtain ⟨x, y, g⟩ := bez_int ((Nat.gcd a.natAbs b.natAbs : Nat) : Int) c
  rw [Int.natAbs_natCast] at g
  refine ⟨x * u, x * v, y, ?_⟩
  rw [← g, ← h]
  grind

/-! ### the point of point_apart has no measure of its own -/
theorem pt_cop {a c : Int} : ∀ (ps : List Nat) (s : Int × Int), (∀ q ∈ ps, EP q) → ps.Nodup → gI s.1 s.2 = 1 → (∀ q ∈ ps, ¬ (q : Int) ∣ s.1 ∧ ¬ (q : Int) ∣ s.2) → gI (ps.foldl (ptS a c) s).1 (ps.foldl (ptS a c) s).2 = 1
  | [], s, _, _, h, _ => h
  | q :: ps, s, hq, nd, h, hn => by
    obtain ⟨n1, n2⟩ := List.nodup_cons.mp nd
    have eq1 := hq q List.mem_cons_self
    obtain ⟨k1, k2⟩ := hn q List.mem_cons_self
    have rest : ∀ x : Int, (∀ q' ∈ ps, ¬ (q' : Int) ∣ x) → ∀ q' ∈ ps, ¬ (q' : Int) ∣ x * (q : Int) := fun x hx q' hq' hd => by
      have e' := hq q' (List.mem_cons_of_mem _ hq')
      rcases e'.euclid hd with z | z
      · exact hx q' hq' z
      · have := e'.eq eq1 z
        subst this
        exact n1 hq'
    have cop : ∀ x y : Int, gI x y = 1 → ¬ (q : Int) ∣ y → gI (x * (q : Int)) y = 1 := fun x y g1 g2 => by
      have u1 : Nat.gcd q y.natAbs = 1 := eq1.cop fun w => g2 (Int.ofNat_dvd_left.mpr w)
      have u2 : Nat.gcd x.natAbs y.natAbs = 1 := by
        have : ((Nat.gcd x.natAbs y.natAbs : Nat) : Int) = 1 := g1
        omega
      show ((Nat.gcd (x * (q : Int)).natAbs y.natAbs : Nat) : Int) = 1
      rw [Int.natAbs_mul, Int.natAbs_natCast]
      have : Nat.Coprime (x.natAbs * q) y.natAbs := Nat.Coprime.mul_left u2 u1
      rw [this]
      rfl
    have comm : ∀ x y : Int, gI x y = gI y x := fun x y => by unfold gI; rw [Nat.gcd_comm]
    rw [List.foldl_cons]
    refine pt_cop ps _ (fun x hx => hq x (List.mem_cons_of_mem _ hx)) n2 ?_ (fun q' hq' => ?_)
    · unfold ptS
      split
      · split
        · exact h
        · exact cop _ _ h k2
      · show gI s.1 (s.2 * (q : Int)) = 1
        rw [comm]
        exact cop _ _ (by rw [comm]; exact h) k1
    · have h1 := fun q' hq' => (hn q' (List.mem_cons_of_mem q hq')).1
      have h2 := fun q' hq' => (hn q' (List.mem_cons_of_mem q hq')).2
      unfold ptS
      split
      · split
        · exact ⟨h1 q' hq', h2 q' hq'⟩
        · exact ⟨rest _ h1 q' hq', h2 q' hq'⟩
      · exact ⟨h1 q' hq', rest _ h2 q' hq'⟩
/-! ### numbers up to 20 and their primes -/
def smB (n : Nat) : Bool := match ppM n with
  | some l => (l.all fun x => epB x.1 && x.1.blt 1000 && Nat.ble 1 x.1 && (n % x.1).beq 0) && decide ((l.map (·.1)).Nodup) && Nat.ble ((l.map (·.1)).foldl (· * ·) 1) n && (List.range n).all fun r => ((l.map (·.1)).any fun p => (r % p).beq 0) || (Nat.gcd n r).beq 1
  | none => false
theorem sm_tab : ((List.range 20).all fun k => smB (k + 1)) = true := by decide +kernel
structure SmP (n : Nat) (l : List (Nat × Nat)) : Prop where
  pp : ppM n = some l
  ep : ∀ q ∈ l.map (·.1), EP q
  sz : ∀ x ∈ l, 1 ≤ x.1 ∧ x.1 < 1000
  nd : (l.map (·.1)).Nodup
  pr : (l.map (·.1)).foldl (· * ·) 1 ≤ n
  co : ∀ w : Int, (∀ p : Nat, p ∈ l.map (·.1) → ¬ (p : Int) ∣ w) → gI (n : Int) w = 1
theorem sm_ok {n : Nat} (h1 : 1 ≤ n) (h2 : n ≤ 20) : ∃ l, SmP n l := by
  have h := List.all_eq_true.mp sm_tab (n - 1) (List.mem_range.mpr (by omega))
  rw [show n - 1 + 1 = n by omega] at h
  unfold smB at h
  split at h
  · rename_i l hl
    simp only [Bool.and_eq_true] at h
    obtain ⟨⟨⟨c1, c2⟩, c3⟩, c4⟩ := h
    have a := fun x hx => List.all_eq_true.mp c1 x hx
    simp only [Bool.and_eq_true] at a
    have ep : ∀ q ∈ l.map (·.1), EP q := fun q hq => by
      obtain ⟨x, hx, rfl⟩ := List.mem_map.mp hq
      exact ep_of (a x hx).1.1.1
    refine ⟨l, hl, ep, fun x hx => ⟨Nat.le_of_ble_eq_true (a x hx).1.2, by have := (a x hx).1.1.2; simpa using this⟩, of_decide_eq_true c2, Nat.le_of_ble_eq_true c3, fun w hw => ?_⟩
    have r0 := Int.emod_nonneg w (show (n : Int) ≠ 0 by omega)
    have r1 := Int.emod_lt_of_pos w (show (0 : Int) < (n : Int) by omega)
    have h5 := List.all_eq_true.mp c4 (w % (n : Int)).toNat (List.mem_range.mpr (by omega))
    rw [Bool.or_eq_true] at h5
    show ((Nat.gcd (n : Int).natAbs w.natAbs : Nat) : Int) = 1
    rw [Int.natAbs_natCast]
    have g1 : (Nat.gcd n w.natAbs) ∣ Nat.gcd n (w % (n : Int)).toNat := by
      refine Nat.dvd_gcd (Nat.gcd_dvd_left _ _) (Int.ofNat_dvd.mp ?_)
      rw [Int.toNat_of_nonneg r0, Int.emod_def]
      exact Int.dvd_sub (Int.ofNat_dvd_left.mpr (Nat.gcd_dvd_right _ _)) (Int.dvd_trans (Int.ofNat_dvd.mpr (Nat.gcd_dvd_left _ _)) ⟨_, rfl⟩)
    rcases h5 with h5 | h5
    · exfalso
      obtain ⟨p, hp, hq⟩ := List.any_eq_true.mp h5
      have hq := Nat.eq_of_beq_eq_true hq
      have d1 : (p : Int) ∣ w % (n : Int) := by
        have := Nat.dvd_of_mod_eq_zero hq
        have := Int.ofNat_dvd.mpr this
        rwa [Int.toNat_of_nonneg r0] at this
      have d2 : (p : Int) ∣ (n : Int) := by
        obtain ⟨x, hx, rfl⟩ := List.mem_map.mp hp
        exact Int.ofNat_dvd.mpr (Nat.dvd_of_mod_eq_zero (Nat.eq_of_beq_eq_true (a x hx).2))
      have d3 := Int.dvd_add (Int.dvd_trans d2 ⟨w / n, rfl⟩) d1
      rw [Int.mul_ediv_add_emod] at d3
      exact hw p hp d3
    · rw [Nat.eq_of_beq_eq_true h5] at g1
      rw [Nat.dvd_one.mp g1]
      rfl
  · cases h
/-! ### forms of one discriminant: content 1, positive ones below 0 -/
abbrev DvS (d : Int) : Prop := (d < 0 ∧ -400 ≤ d) ∨ DvI d
structure FdF (d : Int) (f : Fm) : Prop where
  ds : dsF f = d
  ct : ctF f = 1
  po : d < 0 → 0 < f.1
theorem FdF.prm {d : Int} {f : Fm} (F : FdF d f) : Prm f := by
  obtain ⟨a, b, c⟩ := f
  obtain ⟨u, v, w, h⟩ := bez_three a b c
  have e : gL [a, b, c] = 1 := F.ct
  exact ⟨u, v, w, h.trans e⟩
theorem FdF.ins {d : Int} {f : Fm} (v : DvS d) (F : FdF d f) : InS (Sd d) f := inS_d v F.ds F.po
/-- a form below 0 takes values above 0 alone -/
theorem pos_val {d a b c x y : Int} (d0 : d < 0) (e : dsc a b c = d) (a0 : 0 < a) (h : ¬ (x = 0 ∧ y = 0)) : 0 < fA a b c x y := by
  have e4 : 4 * a * fA a b c x y = (2 * a * x + b * y) * (2 * a * x + b * y) + -d * (y * y) := by
    rw [← e]
    unfold fA dsc
    grind
  have s1 := sqn (2 * a * x + b * y)
  have s2 := sqn y
  have rp : 0 < (2 * a * x + b * y) * (2 * a * x + b * y) + -d * (y * y) := by
    by_cases z : y = 0
    · subst z
      have x0 : x ≠ 0 := fun z => h ⟨z, rfl⟩
      have ne : 2 * a * x + b * 0 ≠ 0 := by
        rw [Int.mul_zero, Int.add_zero, Int.mul_assoc]
        have := Int.mul_ne_zero (show a ≠ 0 by omega) x0
        omega
      have := Int.mul_ne_zero ne ne
      omega
    · have := Int.mul_ne_zero z z
      have : 0 < -d * (y * y) := Int.mul_pos (by omega) (by omega)
      omega
  rw [← e4] at rp
  by_cases w : 0 < fA a b c x y
  · exact w
  · have := Int.mul_nonpos_of_nonneg_of_nonpos (show 0 ≤ 4 * a by omega) (show fA a b c x y ≤ 0 by omega)
    omega
theorem FdF.act {d : Int} {f : Fm} {p q r s : Int} (F : FdF d f) (h : p * s - q * r = 1) : FdF d (actF f p q r s) := by
  refine ⟨?_, ct_act h F.ct, fun d0 => pos_val d0 F.ds (F.po d0) (fun z => ?_)⟩
  · have e := F.ds
    unfold dsF actF at *
    rw [dsc_act, h, e, Int.mul_one, Int.mul_one]
  · rw [z.1, z.2] at h
    simp at h
theorem FdF.actM {d : Int} {f : Fm} {m : M4} (F : FdF d f) (h : detM m = 1) : FdF d (actM f m) := F.act h
theorem dvs_ns {d x : Int} (v : DvS d) : x * x ≠ d := by
  intro e
  rcases v with v | v
  · have := sqn x
    omega
  · have h := v.ns
    obtain ⟨r0, r1, r2⟩ := rootI_spec (n := d) (by have := v.lo; omega)
    have hx : x.natAbs * x.natAbs = d.natAbs := by rw [← Int.natAbs_mul, e]
    have hx2 : ((x.natAbs : Int)) * (x.natAbs : Int) = d := by
      have := v.lo
      omega
    rcases Int.lt_trichotomy (rootI d) (x.natAbs : Int) with z | z | z
    · have := Int.mul_le_mul (show rootI d + 1 ≤ (x.natAbs : Int) by omega) (show rootI d + 1 ≤ (x.natAbs : Int) by omega) (by omega) (by omega)
      omega
    · rw [z] at h
      exact h hx2
    · have := Int.mul_le_mul (show (x.natAbs : Int) + 1 ≤ rootI d by omega) (show (x.natAbs : Int) + 1 ≤ rootI d by omega) (by omega) (by omega)
      have : ((x.natAbs : Int) + 1) * ((x.natAbs : Int) + 1) = (x.natAbs : Int) * (x.natAbs : Int) + 2 * (x.natAbs : Int) + 1 := by grind
      omega
theorem FdF.a0 {d : Int} {f : Fm} (v : DvS d) (F : FdF d f) : f.1 ≠ 0 := by
  obtain ⟨a, b, c⟩ := f
  rintro e
  have e : a = 0 := e
  subst e
  have h : dsc 0 b c = d := F.ds
  refine dvs_ns v (x := b) ?_
  rw [← h]
  unfold dsc
  omega
theorem FdF.c0 {d : Int} {f : Fm} (v : DvS d) (F : FdF d f) : f.2.2 ≠ 0 := by
  obtain ⟨a, b, c⟩ := f
  rintro e
  have e : c = 0 := e
  subst e
  have h : dsc a b 0 = d := F.ds
  refine dvs_ns v (x := b) ?_
  rw [← h]
  unfold dsc
  omega
/-- what stands in the list of classes is such a form, and its own canonical form -/
theorem cl_fd {d : Int} {f : Fm} (v : DvS d) (h : ClM d (fL f)) : FdF d f ∧ CnS (Sd d) f f := by
  rcases h with ⟨d0, a, b, k, e⟩ | ⟨d0, g, C, L, e⟩
  · rcases v with v | v
    · obtain ⟨⟨c, ec, hm, F, R, hg⟩, a1, a2⟩ := okC_pf d0 (by omega) k
      rw [ec] at e
      obtain rfl : f = (a, b, c) := fL_inj e
      refine ⟨⟨?_, hg, fun _ => by show 0 < a; omega⟩, ?_⟩
      · have fd := F.d
        show dsc a b c = d
        unfold dsc
        rw [Int.mul_assoc]
        omega
      · rcases sd_o d with ⟨_, q⟩ | ⟨q, _⟩
        · rw [q]
          refine ⟨(1, 0, 0, 1), rfl, (actF_one _).symm, ?_⟩
          rw [Int.one_mul, Int.one_mul, Int.one_mul]
          exact R
        · exact absurd d0 q
    · have := v.lo
      omega
  · rcases v with v | v
    · omega
    · obtain rfl : f = g := fL_inj e
      refine ⟨⟨C.1.d, C.2.2, fun z => by omega⟩, ?_⟩
      rcases sd_o d with ⟨q, _⟩ | ⟨_, q⟩
      · omega
      · rw [q]
        obtain ⟨k, cy, hk⟩ := ring_ok C.1 C.2.1 (by have := v.hi; omega)
        exact ⟨f, k, (1, 0, 0, 1), C.1, C.2.1, rfl, (actF_one _).symm, cy, by rw [ls_eq cy hk, ls_self v C L]⟩
theorem cn_in {d : Int} {f h : Fm} (v : DvS d) (F : FdF d f) (C : CnS (Sd d) f h) : ClM d (fL h) := by
  obtain ⟨a, b, c⟩ := f
  obtain ⟨x, y, z⟩ := h
  exact cn_cl v F.ds F.ct C
theorem cn_back {d : Int} {f h : Fm} {m : M4} (dm : detM m = 1) (C : CnS (Sd d) (actM f m) h) : CnS (Sd d) f h := by
  rcases sd_o d with ⟨_, q⟩ | ⟨_, q⟩
  · rw [q] at C ⊢
    obtain ⟨n, dn, e, R⟩ := C
    obtain ⟨w, ew, dw⟩ := actM_mul f m n
    exact ⟨w, dw dm dn, e.trans ew, R⟩
  · rw [q] at C ⊢
    obtain ⟨g, k, n, G, Rg, dn, e, cy, hl⟩ := C
    obtain ⟨w, ew, dw⟩ := actM_mul f m n
    exact ⟨g, k, w, G, Rg, dw dm dn, e.trans ew, cy, hl⟩
/-- the canonical form of a class is a form of it -/
theorem least_path {d : Int} {g h : Fm} {k : Nat} (G : IFf d g) (R : RDf d g) (cy : Cyc d g (k + 1)) (e : PySem.W.Tup.mk (fL h) = leastT d g k) : ∃ m : M4, detM m = 1 ∧ h = actM g m := by
  obtain ⟨m1, _⟩ := min_spec (((List.range k).map fun i => fL (rhoN d (i + 1) g)).map PySem.W.Tup.mk) (PySem.W.Tup.mk (fL g))
  obtain ⟨i, hi⟩ := (ls_mem cy k (Nat.le_refl _) _).mp m1
  have e2 : PySem.W.Tup.mk (fL h) = PySem.W.Tup.mk (fL (rhoN d i g)) := e.trans hi
  injection e2 with e2
  obtain ⟨d1, d2, _⟩ := mN_ok G R i
  exact ⟨_, d1, (fL_inj e2).trans d2⟩
theorem cn_path {d : Int} {f h : Fm} (C : CnS (Sd d) f h) : ∃ m : M4, detM m = 1 ∧ h = actM f m := by
  rcases sd_o d with ⟨_, q⟩ | ⟨_, q⟩
  · rw [q] at C
    obtain ⟨n, dn, e, _⟩ := C
    exact ⟨n, dn, e⟩
  · rw [q] at C
    obtain ⟨g, k, n, G, Rg, dn, e, cy, hl⟩ := C
    obtain ⟨m, dm, em⟩ := least_path G Rg cy hl
    rw [e] at em
    obtain ⟨w, ew, dw⟩ := actM_mul f n m
    exact ⟨w, dw dn dm, em.trans ew⟩
/-- a class has one form in the list -/
theorem cl_eq {d : Int} {f f' : Fm} {m : M4} (v : DvS d) (h : ClM d (fL f)) (h' : ClM d (fL f')) (dm : detM m = 1) (e : f' = actM f m) : f = f' := by
  obtain ⟨F, C⟩ := cl_fd v h
  obtain ⟨F', C'⟩ := cl_fd v h'
  rw [e] at C'
  have C2 := cn_back dm C'
  rw [← e] at C2
  obtain ⟨a, b, c⟩ := f
  exact cn_uniq (F.ins v) C C2
/-- F is the class of what is composed of f and g -/
def CpC (d : Int) (f g h : Fm) : Prop := ClM d (fL h) ∧ ∃ p q, Cmp f g h p q
theorem act_back {f g : Fm} {m : M4} (dm : detM m = 1) (e : g = actM f m) : ∃ n : M4, detM n = 1 ∧ f = actM g n := by
  obtain ⟨p, q, r, s⟩ := m
  exact ⟨(s, -q, -r, p), det_inv dm, by rw [e]; exact (actF_inv f dm).symm⟩
theorem cpC_uniq {d : Int} {f g h h' f' g' : Fm} {m n : M4} (v : DvS d) (F : FdF d f) (C : CpC d f g h) (C' : CpC d f' g' h') (dm : detM m = 1) (dn : detM n = 1) (ef : f' = actM f m) (eg : g' = actM g n) : h = h' := by
  obtain ⟨k, p, q, c⟩ := C
  obtain ⟨k', p', q', c'⟩ := C'
  have c2 := cmp_ch2 (cmp_ch1 c dm) dn
  rw [← ef, ← eg] at c2
  have F' : FdF d f' := by rw [ef]; exact F.actM dm
  obtain ⟨s, t, u, w, det, e, _, _⟩ := cmp_uniq c2 c' F'.prm
  exact cl_eq (m := (w, -t, -u, s)) v k k' (show w * s - -t * -u = 1 by rw [← det]; grind) e
theorem cpC_one {d : Int} {f g h h' : Fm} (v : DvS d) (F : FdF d f) (C : CpC d f g h) (C' : CpC d f g h') : h = h' :=
  cpC_uniq (m := (1, 0, 0, 1)) (n := (1, 0, 0, 1)) v F C C' rfl rfl (actF_one _).symm (actF_one _).symm
theorem cpC_comm {d : Int} {f g h : Fm} (C : CpC d f g h) : CpC d g f h := by
  obtain ⟨k, p, q, c⟩ := C
  exact ⟨k, _, _, cmp_comm c⟩
theorem cpC_assoc {d : Int} {f g h F G F' G' : Fm} (v : DvS d) (Ff : FdF d f) (Fg : FdF d g) (Fh : FdF d h) (C : CpC d f g F) (D : CpC d F h G) (C' : CpC d g h F') (D' : CpC d f F' G') : G = G' := by
  obtain ⟨_, p, q, c⟩ := C
  obtain ⟨k, r, s, c2⟩ := D
  obtain ⟨_, p', q', c'⟩ := C'
  obtain ⟨k', r', s', c2'⟩ := D'
  obtain ⟨m, dm, e⟩ := cmp_assoc c c2 c' c2' Ff.prm Fh.prm (Fg.a0 v) (Fh.a0 v)
  exact (cl_eq v k' k dm e).symm
theorem par_mid {d : Int} {f : Fm} (F : FdF d f) : f.2.1 % 2 = d % 2 := by
  obtain ⟨a, b, c⟩ := f
  have e : dsc a b c = d := F.ds
  show b % 2 = d % 2
  have h2 : b * b % 2 = b % 2 := by
    rcases Int.emod_two_eq b with h | h <;> rw [Int.mul_emod, h] <;> rfl
  unfold dsc at e
  rw [Int.mul_assoc] at e
  omega
/-- the principal form, moved so that its middle number is one of the same evenness -/
theorem prin_move {d b c : Int} (e : b % 2 = d % 2) (h : b * b - 4 * c = d) (c0 : dsc 1 (d % 2) ((d % 2 - d) / 4) = d) : (1, b, c) = actM (1, d % 2, (d % 2 - d) / 4) (1, (b - d % 2) / 2, 0, 1) := by
  generalize (d % 2 - d) / 4 = k at *
  have e2 : b = d % 2 + 2 * ((b - d % 2) / 2) := by omega
  generalize (b - d % 2) / 2 = t at *
  generalize d % 2 = b0 at *
  unfold dsc at c0
  refine fm_ext ?_ ?_ ?_
  · show (1 : Int) = 1 * 1 * 1 + b0 * 1 * 0 + k * 0 * 0
    grind
  · show b = 2 * 1 * 1 * t + b0 * (1 * 1 + t * 0) + 2 * k * 0 * 1
    rw [e2]
    grind
  · show c = 1 * t * t + b0 * t * 1 + k * 1 * 1
    have : 4 * c = 4 * (1 * t * t + b0 * t * 1 + k * 1 * 1) := by
      rw [e2] at h
      grind
    omega
theorem det_up (t : Int) : detM (1, t, 0, 1) = 1 := by
  show (1 : Int) * 1 - t * 0 = 1
  rw [Int.mul_zero]
  rfl
/-- a class composed with the principal one -/
theorem cpC_prin {d : Int} {f e h : Fm} (v : DvS d) (d4 : d % 4 = 0 ∨ d % 4 = 1) (F : FdF d f) (k : ClM d (fL f)) (E : CnS (Sd d) (1, d % 2, (d % 2 - d) / 4) e) (C : CpC d f e h) : h = f := by
  have kc := prin_dsc d4
  have F0 : FdF d (1, d % 2, (d % 2 - d) / 4) := ⟨kc, prin_ct d, fun _ => by show (0 : Int) < 1; decide⟩
  have pm := par_mid F
  obtain ⟨a, b, c⟩ := f
  have fd : dsc a b c = d := F.ds
  have mv := prin_move (b := b) (c := a * c) pm (by rw [← fd]; unfold dsc; grind) kc
  have F1 : FdF d (1, b, a * c) := by rw [mv]; exact F0.actM (det_up _)
  -- e is of the class of (1, b, a c)
  obtain ⟨Fe, Ce⟩ := cl_fd v (cn_in v F0 E)
  have E1 : ∃ m, detM m = 1 ∧ e = actM (1, b, a * c) m := by
    obtain ⟨n, dn, en⟩ := cn_path E
    obtain ⟨m', dm', em'⟩ := act_back (m := (1, (b - d % 2) / 2, 0, 1)) (det_up _) mv
    rw [em'] at en
    obtain ⟨w, ew, dw⟩ := actM_mul (1, b, a * c) m' n
    exact ⟨w, dw dm' dn, en.trans ew⟩
  obtain ⟨m, dm, em⟩ := E1
  exact (cpC_uniq (m := (1, 0, 0, 1)) v F (⟨k, _, _, cmp_one⟩ : CpC d (a, b, c) (1, b, a * c) (a, b, c)) C rfl dm (actF_one _).symm em).symm
theorem turn_opp (a b c : Int) : (c, b, a) = actM (a, -b, c) (0, -1, 1, 0) := by
  refine fm_ext ?_ ?_ ?_
  · show c = a * 0 * 0 + -b * 0 * 1 + c * 1 * 1
    grind
  · show b = 2 * a * 0 * (-1) + -b * (0 * 0 + (-1) * 1) + 2 * c * 1 * 0
    grind
  · show a = a * (-1) * (-1) + -b * (-1) * 0 + c * 0 * 0
    grind
/-- a class composed with its opposite -/
theorem cpC_opp {d a b c : Int} {o e h : Fm} (v : DvS d) (d4 : d % 4 = 0 ∨ d % 4 = 1) (F : FdF d (a, b, c)) (O : CnS (Sd d) (a, -b, c) o) (E : CnS (Sd d) (1, d % 2, (d % 2 - d) / 4) e) (C : CpC d (a, b, c) o h) : h = e := by
  have kc := prin_dsc d4
  have F0 : FdF d (1, d % 2, (d % 2 - d) / 4) := ⟨kc, prin_ct d, fun _ => by show (0 : Int) < 1; decide⟩
  have pm := par_mid F
  have pm : b % 2 = d % 2 := pm
  have fd : dsc a b c = d := F.ds
  have mv := prin_move (b := -b) (c := a * c) (d := d) (by omega) (by rw [← fd]; unfold dsc; grind) kc
  obtain ⟨n, dn, en⟩ := cn_path O
  -- o is of the class of (c, b, a)
  obtain ⟨m', dm', em'⟩ := act_back (m := (0, -1, 1, 0)) rfl (turn_opp a b c)
  rw [em'] at en
  obtain ⟨w, ew, dw⟩ := actM_mul (c, b, a) m' n
  -- what is composed is of the principal class
  obtain ⟨k, p, q, cc⟩ := C
  have c2 := cmp_ch2 (cmp_opp (a := a) (b := b) (c := c)) (dw dm' dn)
  rw [← ew, ← en] at c2
  obtain ⟨s, t, u, x, det, eh, _, _⟩ := cmp_uniq c2 cc F.prm
  have t2 := turn_opp (a * c) (-b) 1
  rw [Int.neg_neg] at t2
  obtain ⟨m2, dm2, em2⟩ := act_back (m := (0, -1, 1, 0)) rfl t2
  have eh : h = actM (a * c, b, 1) (x, -t, -u, s) := eh
  rw [em2, mv] at eh
  obtain ⟨w2, ew2, dw2⟩ := actM_mul (actM (1, d % 2, (d % 2 - d) / 4) (1, (-b - d % 2) / 2, 0, 1)) m2 (x, -t, -u, s)
  rw [ew2] at eh
  obtain ⟨w3, ew3, dw3⟩ := actM_mul (1, d % 2, (d % 2 - d) / 4) (1, (-b - d % 2) / 2, 0, 1) w2
  rw [ew3] at eh
  have dw4 : detM w3 = 1 := dw3 (det_up _) (dw2 dm2 (show x * s - -t * -u = 1 by rw [← det]; grind))
  -- both stand in the list
  obtain ⟨n0, dn0, en0⟩ := cn_path E
  obtain ⟨m5, dm5, em5⟩ := act_back dn0 en0
  rw [em5] at eh
  obtain ⟨w6, ew6, dw6⟩ := actM_mul e m5 w3
  exact (cl_eq v (cn_in v F0 E) k (dw6 dm5 dw4) (eh.trans ew6)).symm

theorem cl_small {d a b c : Int} (v : DvS d) (h : ClM d [a, b, c]) : a.natAbs ≤ 20 ∧ b.natAbs ≤ 20 ∧ c.natAbs ≤ 401 := by
  rcases h with ⟨d0, x, y, k, e⟩ | ⟨d0, f, C, _, e⟩
  · rcases v with v | v
    · obtain ⟨⟨c', ec, hm, F, R, hg⟩, a1, a2⟩ := okC_pf d0 (by omega) k
      rw [ec] at e
      injection e with e1 e
      injection e with e2 e
      injection e with e3 e
      subst e1 e2 e3
      obtain ⟨r1, r2, r3, _⟩ := R
      have fd := F.d
      have a20 : a ≤ 20 := by
        by_cases z : a ≤ 20
        · exact z
        · have := Int.mul_le_mul (show 21 ≤ a by omega) (show 21 ≤ a by omega) (by omega) (by omega)
          omega
      have b20 : b * b ≤ 400 := by
        have : (b * b).natAbs ≤ 20 * 20 := by
          rw [Int.natAbs_mul]
          exact Nat.mul_le_mul (by omega) (by omega)
        omega
      have ca : c ≤ a * c := by
        have := Int.mul_le_mul_of_nonneg_right a1 (show 0 ≤ c by omega)
        omega
      exact ⟨by omega, by omega, by omega⟩
    · have := v.lo
      omega
  · rcases v with v | v
    · omega
    · obtain ⟨x, y, z⟩ := f
      injection e with e1 e
      injection e with e2 e
      injection e with e3 e
      have F : IF d x y z := C.1
      have R : RedI d x y := C.2.1
      obtain ⟨s1, s2, s3⟩ := F.sizes R
      obtain ⟨r0, r1⟩ := red_bds v
      have b0 := R.1
      have b1 := R.2.1
      dsimp only at e1 e2 e3
      exact ⟨by omega, by omega, by omega⟩
/-- the point that point_apart finds, for a form of content 1 and a number up to 20 -/
theorem pt_all {a b c n : Int} {l : List (Nat × Nat)} (S : SmP n.natAbs l) (n0 : n ≠ 0) (n20 : n.natAbs ≤ 20) (h : gL [a, b, c] = 1) :
    gI (ptF a c (l.map (·.1))).1 (ptF a c (l.map (·.1))).2 = 1 ∧ gI n (fA a b c (ptF a c (l.map (·.1))).1 (ptF a c (l.map (·.1))).2) = 1 ∧ (ptF a c (l.map (·.1))).1.natAbs ≤ 20 ∧ (ptF a c (l.map (·.1))).2.natAbs ≤ 20 := by
  have e1 : ∀ q ∈ l.map (·.1), 1 ≤ q := fun q hq => Nat.le_trans (by decide) (S.ep q hq).two
  obtain ⟨z1, z2⟩ := pt_size (a := a) (c := c) (l.map (·.1)) (1, 1) 1 e1 (by decide) (by decide)
  have no1 : ∀ q ∈ l.map (·.1), ¬ ((q : Nat) : Int) ∣ 1 := fun q hq z => by
    have := Int.ofNat_dvd.mp (show ((q : Nat) : Int) ∣ ((1 : Nat) : Int) from z)
    have := Nat.dvd_one.mp this
    have := (S.ep q hq).two
    omega
  refine ⟨pt_cop _ (1, 1) S.ep S.nd (by decide) (fun q hq => ⟨no1 q hq, no1 q hq⟩), ?_, Nat.le_trans z1 (Nat.le_trans S.pr n20), Nat.le_trans z2 (Nat.le_trans S.pr n20)⟩
  have k := S.co (fA a b c (ptF a c (l.map (·.1))).1 (ptF a c (l.map (·.1))).2) (fun p hp => pt_apart S.ep hp (fun z => by
    have d := gL_max z.1 z.2.1 z.2.2
    rw [h] at d
    exact no1 p hp d))
  unfold gI at *
  rw [Int.natAbs_natCast] at k
  exact k
/-- what the united forms are -/
theorem united {d a a2 M c1 c2 : Int} (e1 : dsc a M c1 = d) (e2 : dsc a2 M c2 = d) (g : gI a a2 = 1) (a0 : a ≠ 0) : c2.fdiv a * a = c2 ∧ c1 = a2 * (c2.fdiv a) := by
  have h : a * c1 = a2 * c2 := by
    unfold dsc at e1 e2
    rw [Int.mul_assoc] at e1 e2
    omega
  have hd : a ∣ c2 := by
    refine Int.natAbs_dvd_natAbs.mp ?_
    have h3 : a.natAbs ∣ a2.natAbs * c2.natAbs := by
      rw [← Int.natAbs_mul, ← h, Int.natAbs_mul]
      exact ⟨_, rfl⟩
    have h4 : Nat.Coprime a.natAbs a2.natAbs := by
      have : ((Nat.gcd a.natAbs a2.natAbs : Nat) : Int) = 1 := g
      show Nat.gcd a.natAbs a2.natAbs = 1
      omega
    exact Nat.Coprime.dvd_of_dvd_mul_left h4 h3
  obtain ⟨k, rfl⟩ := hd
  rw [Int.mul_fdiv_cancel_left _ a0]
  refine ⟨Int.mul_comm _ _, Int.eq_of_mul_eq_mul_left a0 ?_⟩
  rw [h]
  grind
theorem up_act (x y z n : Int) : actF (x, y, z) 1 n 0 1 = (x, y + 2 * x * n, x * n * n + y * n + z) := by
  unfold actF
  refine fm_ext ?_ ?_ ?_ <;> (dsimp only; (try unfold fA); (try unfold fB); grind)
theorem prm_ct {a b c : Int} (h : Prm (a, b, c)) : gL [a, b, c] = 1 := by
  obtain ⟨u, v, w, h⟩ := h
  obtain ⟨d1, d2, d3⟩ := gL_dv (a := a) (b := b) (c := c)
  have k : gL [a, b, c] ∣ 1 := by
    rw [← h]
    exact Int.dvd_add (Int.dvd_add (Int.dvd_mul_of_dvd_right d1) (Int.dvd_mul_of_dvd_right d2)) (Int.dvd_mul_of_dvd_right d3)
  exact Int.eq_one_of_dvd_one (gL_nn a b c) k
theorem unit_prm {a a' b c : Int} (h : Prm (a, b, a' * c)) (g : Prm (a', b, a * c)) : Prm (a * a', b, c) := by
  obtain ⟨u, v, w, h⟩ := h
  obtain ⟨u', v', w', g⟩ := g
  dsimp only at h g
  refine ⟨u * u', u * a * v' + v * (u' * a' + v' * b + w' * (a * c)) + w * (a' * c) * v', u * w' * a * a + w * u' * a' * a' + w * w' * a' * a * c, ?_⟩
  show u * u' * (a * a') + _ * b + _ * c = 1
  have e : (u * a + v * b + w * (a' * c)) * (u' * a' + v' * b + w' * (a * c)) = 1 := by rw [h, g]; rfl
  rw [← e]
  grind
/-- the last number of united forms is small -/
theorem unit_small {d a a' M L : Int} (dd : dsc (a * a') M L = d) (h1 : d.natAbs ≤ 401) (h0 : a * a' ≠ 0) (hM : M.natAbs ≤ 20 + 2 * (a * a').natAbs) : L.natAbs ≤ (a * a').natAbs + 222 := by
  generalize a * a' = t at *
  have e : 4 * (t * L) = M * M - d := by
    rw [← dd]
    unfold dsc
    rw [Int.mul_assoc]
    omega
  have e2 : 4 * (t.natAbs * L.natAbs) = (M * M - d).natAbs := by
    rw [← e, Int.natAbs_mul, Int.natAbs_mul]
    rfl
  have e3 : (M * M).natAbs ≤ (20 + 2 * t.natAbs) * (20 + 2 * t.natAbs) := by
    rw [Int.natAbs_mul]
    exact Nat.mul_le_mul hM hM
  have t1 : 1 ≤ t.natAbs := by omega
  generalize t.natAbs = T at *
  by_cases z : L.natAbs ≤ T + 222
  · exact z
  · have k := Nat.mul_le_mul_left T (show T + 223 ≤ L.natAbs by omega)
    have k2 : T * (T + 223) = T * T + 223 * T := by rw [Nat.mul_add]; omega
    have k3 : (20 + 2 * T) * (20 + 2 * T) = 400 + 80 * T + 4 * (T * T) := by grind
    omega
theorem mid_bd {x y n A : Int} (hy : y.natAbs ≤ 20) (n0 : 0 ≤ n) (n1 : n < (A.natAbs : Int)) : (y + 2 * x * n).natAbs ≤ 20 + 2 * (x * A).natAbs := by
  have h : (x * n).natAbs ≤ (x * A).natAbs := by
    rw [Int.natAbs_mul, Int.natAbs_mul]
    exact Nat.mul_le_mul_left _ (by omega)
  rw [Int.mul_assoc]
  generalize x * n = u at *
  omega
theorem bd_ch1 {n k : Nat} {m p : M4} (h : BdM n m) (g : BdM k p) : BdM (n + k + 1) (ch1 m p) := by
  obtain ⟨h1, h2, h3, h4⟩ := h
  obtain ⟨g1, g2, g3, g4⟩ := g
  have e : max (n + k) (n + k) + 1 = n + k + 1 := by rw [Nat.max_self]
  exact ⟨e ▸ (h1.mul g1).add (h3.mul g3), e ▸ (h1.mul g2).add (h3.mul g4), e ▸ (h2.mul g1).add (h4.mul g3), e ▸ (h2.mul g2).add (h4.mul g4)⟩
theorem bd_ch2 {n k : Nat} {m p : M4} (h : BdM n m) (g : BdM k p) : BdM (n + k + 1) (ch2 m p) := by
  obtain ⟨h1, h2, h3, h4⟩ := h
  obtain ⟨g1, g2, g3, g4⟩ := g
  have e : max (n + k) (n + k) + 1 = n + k + 1 := by rw [Nat.max_self]
  exact ⟨e ▸ (h1.mul g1).add (h3.mul g2), e ▸ (h2.mul g1).add (h4.mul g2), e ▸ (h1.mul g3).add (h3.mul g4), e ▸ (h2.mul g3).add (h4.mul g4)⟩
theorem bd_lin {n k : Nat} {s t : Int} {p q : M4} (h1 : Bd n s) (h2 : Bd n t) (g : BdM k p) (g' : BdM k q) : BdM (n + k + 1) (lin s t p q) := by
  obtain ⟨a1, a2, a3, a4⟩ := g
  obtain ⟨b1, b2, b3, b4⟩ := g'
  have e : max (n + k) (n + k) + 1 = n + k + 1 := by rw [Nat.max_self]
  exact ⟨e ▸ (h1.mul a1).add (h2.mul b1), e ▸ (h1.mul a2).add (h2.mul b2), e ▸ (h1.mul a3).add (h2.mul b3), e ▸ (h1.mul a4).add (h2.mul b4)⟩
theorem BdM.mono {n k : Nat} {m : M4} (h : BdM n m) (l : n ≤ k) : BdM k m := ⟨h.1.mono l, h.2.1.mono l, h.2.2.1.mono l, h.2.2.2.mono l⟩
theorem piZipA {X : Cx} (K : PySem.W.Frag) {e e2 : Expr} {ta : TA} {p pos tpos : Pos} {elts : List Expr} {kk : Nat} (hg : Gl X "zip") (hm : X.mg "zip" = none) (ha : PA X [e, e2] ta)
    (hs : starEach [e, e2] X.env = (false, eval e X.env) :: starEach [e2] X.env := by rfl) (hpl : (backTo pos (starEach [e2] X.env)).any (·.1) = false := by rfl) (hK : X.K = K := by rfl) :
    PI X (.Tuple elts kk tpos) (.Call (.Name "zip" p) [e, e2] [] pos) (RZ.iZipA K ta) := by
  subst hK
  exact RZ.pi_zipA hg hm ha hs hpl
namespace R
theorem zipE {K : PySem.W.Frag} {σ : L2.St} {H : Hp} {R : It → Hp → Prop} {ta : TA} (h : ta σ H fun vs H1 => ∃ a b xs ys, vs = [.ref a, .ref b] ∧ ((SqL K H1 a xs ∧ SqL K H1 b ys ∧ R (Itz K a b) H1) ∨ (SqT K H1 a xs ∧ SqT K H1 b ys ∧ R (RZ.ItzT K a b) H1))) : RZ.iZipA K ta σ H R := h
/-- a comprehension over zip of two tuples, its results known -/
theorem lcZ {K : PySem.W.Frag} {σ : L2.St} {H : Hp} {Q : VK} {te : TE} {p q : Addr} {g : TG} {vs : List Nat} {xs ys : List V} (f : Nat → V) (hl : xs.length = ys.length) (hn : xs.length ≤ 1000) (hx : SqT K H p xs) (hy : SqT K H q ys)
    (hs : ∀ i x y T H' (Q' : VK), xs[i]? = some x → ys[i]? = some y → Same H H' → H' T = some (.tup [x, y]) → (∀ H2, Same H' H2 → Q' (f i) H2) → g (.ref T) (wipe σ vs) H' fun σ2 H2 => wipe σ2 vs = wipe σ vs ∧ te σ2 H2 Q')
    (hq : ∀ H' D, H' D = some (.lst ((List.range xs.length).map f)) → Same H H' → H D = none → Q (.ref D) H') : LcJ (RZ.ItzT K p q) g tYes te vs σ H Q := by
  intro D nD
  refine ⟨fun i m H' => m = xs.length - i ∧ i ≤ xs.length ∧ H' D = some (.lst ((List.range i).map f)) ∧ Same H H', ⟨xs.length, rfl, Nat.zero_le _, upd_same, same_upd nD⟩, ?_⟩
  rintro i m H5 ⟨rfl, hi, hD, s5⟩
  have qx := same_seqT s5 hx
  have qy := same_seqT s5 hy
  by_cases hlt : i < xs.length
  · have ex : xs[i]? = some xs[i] := List.getElem?_eq_getElem hlt
    have hlt2 : i < ys.length := by omega
    have ey : ys[i]? = some ys[i] := List.getElem?_eq_getElem hlt2
    refine .inr ⟨⟨xs, ys, _, _, qx, qy, ex, ey⟩, fun H' => H' D = some (.lst ((List.range (i + 1)).map f)) ∧ Same H H', fun H' p' => ⟨xs.length - (i + 1), by omega, rfl, hlt, p'.1, p'.2⟩, fun v H' y => ?_⟩
    obtain ⟨T, x', y', rfl, hT, rfl, f1, f2⟩ := y
    have sT : Same H5 (upd H5 T (.tup [x', y'])) := same_upd hT
    refine hs i x' y' T _ _ (f1 xs qx) (f2 ys qy) (s5.trans sT) upd_same (fun H2 s2 => ⟨_, s2 _ _ (sT _ _ hD), ?_, ?_, same_mut ((s5.trans sT).trans s2) nD⟩)
    · rw [List.length_map, List.length_range]
      exact small1000 (by omega)
    · rw [upd_same, List.range_succ, List.map_append]
      rfl
  · have e : i = xs.length := by omega
    subst e
    exact .inl ⟨⟨xs, ys, qx, qy, Or.inl (Nat.le_refl _)⟩, hq H5 D hD s5 nD⟩
end R
theorem ch2_eq (n p : M4) : ch2 n p = (p.1 * n.1 + p.2.1 * n.2.2.1, p.1 * n.2.1 + p.2.1 * n.2.2.2, p.2.2.1 * n.1 + p.2.2.2 * n.2.2.1, p.2.2.1 * n.2.1 + p.2.2.2 * n.2.2.2) := by
  unfold ch2
  rw [Int.mul_comm n.1, Int.mul_comm n.2.2.1, Int.mul_comm n.2.1, Int.mul_comm n.2.2.2, Int.mul_comm n.1, Int.mul_comm n.2.2.1, Int.mul_comm n.2.1, Int.mul_comm n.2.2.2]
theorem unite {a a2 b b2 u v : Int} (e : u * a + v * a2 = 1) (h0 : a2 ≠ 0) (h2 : (b2 - b) % 2 = 0) : ∃ n, (u * ((b2 - b).fdiv 2)).fmod (a2.natAbs : Int) = n ∧ 0 ≤ n ∧ n < (a2.natAbs : Int) ∧ b + 2 * a * n = b2 + 2 * a2 * ((b + 2 * a * n - b2).fdiv (2 * a2)) := by
  obtain ⟨h, hh⟩ : ∃ h, (b2 - b).fdiv 2 = h := ⟨_, rfl⟩
  have hb : b2 - b = 2 * h := by
    rw [Int.fdiv_eq_ediv_of_nonneg _ (show (0 : Int) ≤ 2 by decide)] at hh
    omega
  rw [hh]
  refine ⟨_, rfl, Int.fmod_nonneg_of_pos _ (by omega), Int.fmod_lt_of_pos _ (by omega), ?_⟩
  have q := Int.mul_fdiv_add_fmod (u * h) (a2.natAbs : Int)
  generalize (u * h).fmod (a2.natAbs : Int) = n at *
  generalize (u * h).fdiv (a2.natAbs : Int) = k at *
  obtain ⟨s, hs⟩ : ∃ s : Int, (a2.natAbs : Int) = s * a2 := by
    rcases Int.natAbs_eq a2 with z | z
    · exact ⟨1, by omega⟩
    · exact ⟨-1, by omega⟩
  rw [hs] at q
  have e2 : b + 2 * a * n - b2 = (2 * a2) * (-(h * v) - a * s * k) := by
    have : n = u * h - s * a2 * k := by omega
    rw [this, show b = b2 - 2 * h by omega]
    have : u * a = 1 - v * a2 := by omega
    have e3 : 2 * a * (u * h - s * a2 * k) = 2 * (u * a) * h - 2 * a * s * a2 * k := by grind
    rw [show b2 - 2 * h + 2 * a * (u * h - s * a2 * k) - b2 = 2 * a * (u * h - s * a2 * k) - 2 * h by omega, e3, this]
    grind
  have e4 : (b + 2 * a * n - b2).fdiv (2 * a2) = -(h * v) - a * s * k := by
    rw [e2]
    exact Int.mul_fdiv_cancel_left _ (by omega)
  rw [e4]
  omega

/-! ### every class has its canonical form -/
def nx (d : Int) (f : Fm) (k : Nat) : Prop := ∃ m : M4, detM m = 1 ∧ (actM f m).1.natAbs = k
theorem least_nat {p : Nat → Prop} : ∀ n, p n → ∃ k, p k ∧ ∀ j, p j → k ≤ j := by
  intro n
  induction n using Nat.strongRecOn with
  | _ n ih =>
    intro h
    by_cases z : ∃ m, m < n ∧ p m
    · obtain ⟨m, hm, pm⟩ := z
      exact ih m hm pm
    · refine ⟨n, h, fun j pj => ?_⟩
      by_cases w : n ≤ j
      · exact w
      · exact absurd ⟨j, by omega, pj⟩ z
theorem actM_mul2 (f : Fm) (m n : M4) (dm : detM m = 1) (dn : detM n = 1) : ∃ w : M4, detM w = 1 ∧ actM (actM f m) n = actM f w := by
  obtain ⟨w, ew, dw⟩ := actM_mul f m n
  exact ⟨w, dw dm dn, ew⟩
/-- a form of the class with the least first number, its middle number where one wants it -/
theorem least_form {d : Int} {f : Fm} (v : DvS d) (F : FdF d f) (lo : Int → Int) : ∃ (m : M4) (a b c : Int), detM m = 1 ∧ actM f m = (a, b, c) ∧ FdF d (a, b, c) ∧ lo a < b ∧ b ≤ lo a + 2 * (a.natAbs : Int) ∧ a.natAbs ≤ c.natAbs := by
  obtain ⟨k, ⟨m, dm, hk⟩, hl⟩ := least_nat (p := nx d f) f.1.natAbs ⟨(1, 0, 0, 1), rfl, by rw [show actM f (1, 0, 0, 1) = f from actF_one f]⟩
  have F1 := F.actM dm
  obtain ⟨⟨a, b0, c0⟩, e1⟩ : ∃ g, actM f m = g := ⟨_, rfl⟩
  rw [e1] at F1 hk
  have a0 : a ≠ 0 := F1.a0 v
  obtain ⟨t, h1, h2⟩ : ∃ t : Int, lo a < b0 + 2 * a * t ∧ b0 + 2 * a * t ≤ lo a + 2 * (a.natAbs : Int) := by
    have q := Int.mul_ediv_add_emod (b0 - lo a - 1) (2 * (a.natAbs : Int))
    have r0 := Int.emod_nonneg (b0 - lo a - 1) (show 2 * (a.natAbs : Int) ≠ 0 by omega)
    have r1 := Int.emod_lt_of_pos (b0 - lo a - 1) (show 0 < 2 * (a.natAbs : Int) by omega)
    generalize (b0 - lo a - 1) % (2 * (a.natAbs : Int)) = r at *
    generalize (b0 - lo a - 1) / (2 * (a.natAbs : Int)) = s at *
    rcases Int.natAbs_eq a with z | z
    · refine ⟨-s, ?_⟩
      have e : 2 * (a.natAbs : Int) * s = 2 * a * s := by rw [← z]
      have e2 : 2 * a * -s = -(2 * a * s) := by grind
      rw [e2]
      omega
    · refine ⟨s, ?_⟩
      have e : 2 * (a.natAbs : Int) * s = -(2 * a * s) := by
        have : (a.natAbs : Int) = -a := by omega
        rw [this]
        grind
      omega
  have F2 := F1.act (det_up t : (1 : Int) * 1 - t * 0 = 1)
  rw [up_act] at F2
  obtain ⟨w, dw, ew⟩ := actM_mul2 f m (1, t, 0, 1) dm (det_up t)
  have e3 : actM (a, b0, c0) (1, t, 0, 1) = (a, b0 + 2 * a * t, a * t * t + b0 * t + c0) := up_act a b0 c0 t
  rw [e1, e3] at ew
  refine ⟨w, a, _, _, dw, ew.symm, F2, h1, h2, ?_⟩
  -- the last number is a first one, turned
  obtain ⟨w2, dw2, ew2⟩ := actM_mul2 f w (0, -1, 1, 0) dw rfl
  have k2 : nx d f (a * t * t + b0 * t + c0).natAbs := by
    refine ⟨w2, dw2, ?_⟩
    rw [← ew2, ← ew]
    show (fA a (b0 + 2 * a * t) (a * t * t + b0 * t + c0) 0 1).natAbs = _
    congr 1
    unfold fA
    grind
  have := hl _ k2
  have hk : a.natAbs = k := hk
  omega
theorem rot_act (a b c : Int) : actM (a, b, c) (0, -1, 1, 0) = (c, -b, a) := by
  unfold actM actF
  refine fm_ext ?_ ?_ ?_ <;> (dsimp only; (try unfold fA); (try unfold fB); grind)
theorem cl_of_red {d : Int} {f g : Fm} (v : DvI d) (F : FdF d f) (R : RDf d f) : ∃ m h, detM m = 1 ∧ h = actM f m ∧ ClM d (fL h) := by
  have I : IFf d f := by
    have e : dsc f.1 f.2.1 f.2.2 = d := F.ds
    exact ⟨e, v.lo, by have := v.hi; omega, v.ns⟩
  have C : RcF d f := ⟨I, R, F.ct⟩
  obtain ⟨i, h1, h2⟩ := ls_spec v C
  obtain ⟨d1, d2, _⟩ := mN_ok I R i
  exact ⟨_, _, d1, d2, .inr ⟨v.lo, _, rcF_rho C i, h2, rfl⟩⟩
theorem cl_ex {d : Int} {f : Fm} (v : DvS d) (F : FdF d f) : ∃ (m : M4) (h : Fm), detM m = 1 ∧ h = actM f m ∧ ClM d (fL h) := by
  rcases v with v | v
  · -- below 0
    obtain ⟨m, a, b, c, dm, e, G, l1, l2, l3⟩ := least_form (.inl v) F (fun a => -(a.natAbs : Int))
    have a0 := G.po v.1
    have a0 : 0 < a := a0
    have cp : 0 < c := by
      have := pos_val (x := 0) (y := 1) v.1 G.ds a0 (by simp)
      unfold fA at this
      simp at this
      exact this
    have mk : ∀ {x y z : Int}, dsc x y z = d → RedD x y z → gL [x, y, z] = 1 → ClM d (fL (x, y, z)) := fun {x y z} e1 R ct => by
      have x0 := redD_pos R
      have e4 : y * y - d = 4 * x * z := by
        rw [← e1]
        unfold dsc
        omega
      have hc : (y * y - d) / (4 * x) = z := by
        rw [e4]
        exact Int.mul_ediv_cancel_left _ (by omega)
      have hm : (y * y - d) % (4 * x) = 0 := by
        rw [e4]
        exact Int.mul_emod_right _ _
      refine .inl ⟨v.1, x, y, ?_, by rw [hc]; rfl⟩
      unfold okC
      rw [hc, decide_eq_true hm, decide_eq_true R, decide_eq_true ct]
      rfl
    by_cases z : a = c ∧ b < 0
    · obtain ⟨w, dw, ew⟩ := actM_mul2 f m (0, -1, 1, 0) dm rfl
      rw [e, rot_act] at ew
      have G2 : FdF d (c, -b, a) := by rw [ew]; exact F.actM dw
      exact ⟨w, (c, -b, a), dw, ew, mk G2.ds ⟨by omega, by omega, by omega, .inl (by omega)⟩ G2.ct⟩
    · refine ⟨m, (a, b, c), dm, e.symm, mk G.ds ⟨by omega, by omega, by omega, ?_⟩ G.ct⟩
      by_cases w : 0 ≤ b
      · exact .inl w
      · exact .inr (fun h => z ⟨h, by omega⟩)
  · -- above 0
    obtain ⟨m, a, b, c, dm, e, G, l1, l2, l3⟩ := least_form (.inr v) F (fun a => if rootI d < (a.natAbs : Int) then -(a.natAbs : Int) else rootI d - 2 * (a.natAbs : Int))
    have I : IF d a b c := ⟨G.ds, v.lo, by have := v.hi; omega, v.ns⟩
    have c0 := I.c0
    by_cases z : rootI d < (a.natAbs : Int)
    · rw [if_pos z] at l1 l2
      have := I.far z (by omega)
      omega
    · rw [if_neg z] at l1 l2
      rcases I.near (by omega) l1 (by omega) with R | h
      · obtain ⟨w, h, dw, eh, k⟩ := cl_of_red (g := f) v G R
        obtain ⟨w2, dw2, ew2⟩ := actM_mul2 f m w dm dw
        rw [e] at ew2
        exact ⟨w2, h, dw2, eh.trans ew2, k⟩
      · omega
/-! ### every two classes are composed -/
theorem cpC_ex {d : Int} {f g : Fm} (v : DvS d) (kf : ClM d (fL f)) (kg : ClM d (fL g)) : ∃ h, CpC d f g h := by
  obtain ⟨F, _⟩ := cl_fd v kf
  obtain ⟨G, _⟩ := cl_fd v kg
  obtain ⟨a, b, c⟩ := f
  obtain ⟨x2, y2, z2⟩ := g
  obtain ⟨s1, s2, s3⟩ := cl_small (a := a) (b := b) (c := c) v kf
  have a0 : a ≠ 0 := F.a0 v
  obtain ⟨lp, S⟩ := sm_ok (n := a.natAbs) (by omega) s1
  obtain ⟨u1, u2, u3, u4⟩ := pt_all (a := x2) (b := y2) (c := z2) S a0 s1 G.ct
  generalize (ptF x2 z2 (lp.map (·.1))).1 = X at *
  generalize (ptF x2 z2 (lp.map (·.1))).2 = Y at *
  obtain ⟨U, V, hUV⟩ := bez_int X Y
  have hUV : U * X + V * Y = 1 := hUV.trans u1
  have dT : X * U - -V * Y = 1 := by rw [← hUV]; grind
  have G2 : FdF d (fA x2 y2 z2 X Y, fB x2 y2 z2 X (-V) Y U, fA x2 y2 z2 (-V) U) := G.act dT
  have eG : (fA x2 y2 z2 X Y, fB x2 y2 z2 X (-V) Y U, fA x2 y2 z2 (-V) U) = actM (x2, y2, z2) (X, -V, Y, U) := rfl
  generalize fA x2 y2 z2 X Y = A2 at *
  generalize fB x2 y2 z2 X (-V) Y U = B2 at *
  generalize fA x2 y2 z2 (-V) U = C2 at *
  have A0 : A2 ≠ 0 := G2.a0 v
  obtain ⟨p, q, hpq⟩ := bez_int a A2
  have hpq : p * a + q * A2 = 1 := hpq.trans u2
  have pr1 : b % 2 = d % 2 := par_mid F
  have pr2 : B2 % 2 = d % 2 := par_mid G2
  obtain ⟨n, _, n0, n1, un⟩ := unite (b := b) (b2 := B2) hpq A0 (by omega)
  generalize (b + 2 * a * n - B2).fdiv (2 * A2) = k at *
  have F1 := F.act (det_up n : (1 : Int) * 1 - n * 0 = 1)
  have H1 := G2.act (det_up k : (1 : Int) * 1 - k * 0 = 1)
  rw [up_act] at F1 H1
  rw [← un] at H1
  have ef : (a, b + 2 * a * n, a * n * n + b * n + c) = actM (a, b, c) (1, n, 0, 1) := (up_act a b c n).symm
  have eg : (A2, b + 2 * a * n, A2 * k * k + B2 * k + C2) = actM (A2, B2, C2) (1, k, 0, 1) := by
    rw [un]
    exact (up_act A2 B2 C2 k).symm
  generalize b + 2 * a * n = M at *
  generalize a * n * n + b * n + c = c1 at *
  generalize A2 * k * k + B2 * k + C2 = c2 at *
  obtain ⟨q1, q2⟩ := united F1.ds H1.ds u2 a0
  generalize c2.fdiv a = L at *
  have q2 : c1 = A2 * L := q2
  have q1 : L * a = c2 := q1
  have q3 : c2 = a * L := by rw [← q1, Int.mul_comm]
  subst q2
  subst q3
  have E0 := cmp_unit a A2 M L
  have D0 : FdF d (a * A2, M, L) := ⟨(cmp_ds E0).2.trans F1.ds, prm_ct (unit_prm F1.prm H1.prm), fun z => Int.mul_pos (F1.po z) (H1.po z)⟩
  obtain ⟨w, h, dw, eh, kh⟩ := cl_ex v D0
  obtain ⟨w2, dw2, ew2⟩ := actM_mul2 (x2, y2, z2) (X, -V, Y, U) (1, k, 0, 1) dT (det_up k)
  rw [← eG, ← eg] at ew2
  obtain ⟨m', dm', em'⟩ := act_back (det_up n) ef
  obtain ⟨n', dn', en'⟩ := act_back dw2 ew2
  have c2' := cmp_ch2 (cmp_ch1 E0 dm') dn'
  rw [← em', ← en'] at c2'
  obtain ⟨w1, w2', w3, w4⟩ := w
  have dw : w1 * w4 - w2' * w3 = 1 := dw
  have c3 := cmp_ch3 c2' (s := w4) (t := -w2') (u := -w3) (v := w1) (by rw [← dw]; grind)
  rw [Int.neg_neg, Int.neg_neg] at c3
  have eh : h = actF (a * A2, M, L) w1 w2' w3 w4 := eh
  rw [← eh] at c3
  exact ⟨h, kh, _, _, c3⟩
/-! ### the group -/
def prin (d : Int) : Fm := (1, d % 2, (d % 2 - d) / 4)
open Classical in
noncomputable def pickF (p : Fm → Prop) : Fm := if h : ∃ x, p x then Classical.choose h else (1, 0, 0)
theorem pickF_ok {p : Fm → Prop} (h : ∃ x, p x) : p (pickF p) := by
  unfold pickF
  rw [dif_pos h]
  exact Classical.choose_spec h
noncomputable def cm (d : Int) (f g : Fm) : Fm := pickF fun h => CpC d f g h
noncomputable def clf (d : Int) (f : Fm) : Fm := pickF fun h => CnS (Sd d) f h
noncomputable def eC (d : Int) : Fm := clf d (prin d)
def mir (f : Fm) : Fm := (f.1, -f.2.1, f.2.2)
noncomputable def opC (d : Int) (f : Fm) : Fm := clf d (mir f)
noncomputable def pw (d : Int) (f : Fm) : Nat → Fm
  | 0 => eC d
  | n + 1 => cm d (pw d f n) f
abbrev InC (d : Int) (f : Fm) : Prop := ClM d (fL f)
abbrev D4 (d : Int) : Prop := d % 4 = 0 ∨ d % 4 = 1
section
variable {d : Int} {f g h : Fm}
theorem clf_ex (v : DvS d) (F : FdF d f) : ∃ h, CnS (Sd d) f h := by
  obtain ⟨m, h, dm, e, k⟩ := cl_ex v F
  obtain ⟨_, C⟩ := cl_fd v k
  rw [e] at C
  exact ⟨_, cn_back dm C⟩
theorem clf_ok (v : DvS d) (F : FdF d f) : CnS (Sd d) f (clf d f) := pickF_ok (clf_ex v F)
theorem clf_in (v : DvS d) (F : FdF d f) : InC d (clf d f) := cn_in v F (clf_ok v F)
theorem clf_of (v : DvS d) (F : FdF d f) (C : CnS (Sd d) f h) : h = clf d f := by
  obtain ⟨a, b, c⟩ := f
  exact cn_uniq (F.ins v) C (clf_ok v F)
theorem clf_path (v : DvS d) (F : FdF d f) : ∃ m, detM m = 1 ∧ clf d f = actM f m := cn_path (clf_ok v F)
theorem clf_self (v : DvS d) (k : InC d f) : clf d f = f := (clf_of v (cl_fd v k).1 (cl_fd v k).2).symm
theorem clf_move (v : DvS d) (F : FdF d f) {m : M4} (dm : detM m = 1) : clf d (actM f m) = clf d f :=
  clf_of v F (cn_back dm (clf_ok v (F.actM dm)))
theorem prin_fd (d4 : D4 d) : FdF d (prin d) := ⟨prin_dsc d4, prin_ct d, fun _ => by show (0 : Int) < 1; decide⟩
theorem eC_ok (v : DvS d) (d4 : D4 d) : CnS (Sd d) (prin d) (eC d) := clf_ok v (prin_fd d4)
theorem eC_in (v : DvS d) (d4 : D4 d) : InC d (eC d) := clf_in v (prin_fd d4)
theorem FdF.mir (F : FdF d f) : FdF d (mir f) := by
  obtain ⟨a, b, c⟩ := f
  refine ⟨(dsc_mir a b c).trans F.ds, ?_, F.po⟩
  have e : gL [a, b, c] = 1 := F.ct
  show gL [a, -b, c] = 1
  rw [← e, gL_three, gL_three, Int.natAbs_neg]
theorem opC_in (v : DvS d) (F : FdF d f) : InC d (opC d f) := clf_in v F.mir
theorem cm_ok (v : DvS d) (kf : InC d f) (kg : InC d g) : CpC d f g (cm d f g) := pickF_ok (cpC_ex v kf kg)
theorem cm_in (v : DvS d) (kf : InC d f) (kg : InC d g) : InC d (cm d f g) := (cm_ok v kf kg).1
theorem cm_of (v : DvS d) (kf : InC d f) (kg : InC d g) (C : CpC d f g h) : h = cm d f g := cpC_one v (cl_fd v kf).1 C (cm_ok v kf kg)
/-- what is composed of two forms is composed of their classes -/
theorem cm_cl (v : DvS d) (F : FdF d f) (G : FdF d g) (C : CpC d f g h) : h = cm d (clf d f) (clf d g) := by
  obtain ⟨m, dm, e⟩ := clf_path v F
  obtain ⟨n, dn, e2⟩ := clf_path v G
  exact cpC_uniq v F C (cm_ok v (clf_in v F) (clf_in v G)) dm dn e e2
theorem cm_comm (v : DvS d) (kf : InC d f) (kg : InC d g) : cm d f g = cm d g f := cm_of v kg kf (cpC_comm (cm_ok v kf kg))
theorem cm_assoc (v : DvS d) (kf : InC d f) (kg : InC d g) (kh : InC d h) : cm d (cm d f g) h = cm d f (cm d g h) :=
  cpC_assoc v (cl_fd v kf).1 (cl_fd v kg).1 (cl_fd v kh).1 (cm_ok v kf kg) (cm_ok v (cm_in v kf kg) kh) (cm_ok v kg kh) (cm_ok v kf (cm_in v kg kh))
theorem cm_one (v : DvS d) (d4 : D4 d) (kf : InC d f) : cm d f (eC d) = f := cpC_prin v d4 (cl_fd v kf).1 kf (eC_ok v d4) (cm_ok v kf (eC_in v d4))
theorem one_cm (v : DvS d) (d4 : D4 d) (kf : InC d f) : cm d (eC d) f = f := by rw [cm_comm v (eC_in v d4) kf, cm_one v d4 kf]
theorem cm_opp (v : DvS d) (d4 : D4 d) (kf : InC d f) : cm d f (opC d f) = eC d := by
  have F := (cl_fd v kf).1
  obtain ⟨a, b, c⟩ := f
  exact cpC_opp v d4 F (clf_ok v F.mir) (eC_ok v d4) (cm_ok v kf (opC_in v F))
theorem opC_inC (v : DvS d) (kf : InC d f) : InC d (opC d f) := opC_in v (cl_fd v kf).1
theorem inv_one (v : DvS d) (d4 : D4 d) (kf : InC d f) (kg : InC d g) (e : cm d f g = eC d) : g = opC d f := by
  have k1 := opC_inC v kf
  have h1 := cm_assoc v k1 kf kg
  rw [cm_comm v k1 kf, cm_opp v d4 kf, one_cm v d4 kg, e, cm_one v d4 k1] at h1
  exact h1
theorem opC_opC (v : DvS d) (d4 : D4 d) (kf : InC d f) : opC d (opC d f) = f := by
  have k1 := opC_inC v kf
  exact (inv_one v d4 k1 kf (by rw [cm_comm v k1 kf, cm_opp v d4 kf])).symm
theorem pw_in (v : DvS d) (d4 : D4 d) (kf : InC d f) : ∀ n, InC d (pw d f n)
  | 0 => eC_in v d4
  | n + 1 => cm_in v (pw_in v d4 kf n) kf
theorem pw_one (v : DvS d) (d4 : D4 d) (kf : InC d f) : pw d f 1 = f := one_cm v d4 kf
theorem pw_add (v : DvS d) (d4 : D4 d) (kf : InC d f) (k : Nat) : ∀ l, cm d (pw d f k) (pw d f l) = pw d f (k + l)
  | 0 => cm_one v d4 (pw_in v d4 kf k)
  | l + 1 => by
    show cm d (pw d f k) (cm d (pw d f l) f) = cm d (pw d f (k + l)) f
    rw [← cm_assoc v (pw_in v d4 kf k) (pw_in v d4 kf l) kf, pw_add v d4 kf k l]
theorem cm_swap (v : DvS d) {a b x y : Fm} (ka : InC d a) (kb : InC d b) (kx : InC d x) (ky : InC d y) : cm d (cm d a b) (cm d x y) = cm d (cm d a x) (cm d b y) := by
  rw [cm_assoc v ka kb (cm_in v kx ky), ← cm_assoc v kb kx ky, cm_comm v kb kx, cm_assoc v kx kb ky, ← cm_assoc v ka kx (cm_in v kb ky)]
theorem pw_opp (v : DvS d) (d4 : D4 d) (kf : InC d f) : ∀ n, pw d (opC d f) n = opC d (pw d f n) := by
  have ko := opC_inC v kf
  have key : ∀ n, cm d (pw d f n) (pw d (opC d f) n) = eC d := by
    intro n
    induction n with
    | zero => exact cm_one v d4 (eC_in v d4)
    | succ n ih =>
      show cm d (cm d (pw d f n) f) (cm d (pw d (opC d f) n) (opC d f)) = eC d
      rw [cm_swap v (pw_in v d4 kf n) kf (pw_in v d4 ko n) ko, ih, cm_opp v d4 kf, cm_one v d4 (eC_in v d4)]
  intro n
  exact inv_one v d4 (pw_in v d4 kf n) (pw_in v d4 ko n) (key n)
/-- a power among the first as many as there are classes is one -/
theorem pw_back (v : DvS d) (d4 : D4 d) (kf : InC d f) {ts : List (List Int)} (m : ∀ z, ClM d z → z ∈ ts) : ∃ k, 1 ≤ k ∧ k ≤ ts.length ∧ pw d f k = eC d ∧ ∀ j, 1 ≤ j → j < k → pw d f j ≠ eC d := by
  obtain ⟨i, j, hij, hj, e⟩ := two_alike (fun n => fL (pw d f n)) ts ts.length (fun n _ => m _ (pw_in v d4 kf n)) (Nat.le_refl _)
  have e : pw d f i = pw d f j := fL_inj e
  have h : pw d f (j - i) = eC d := by
    have h1 := pw_add v d4 kf i (j - i)
    rw [show i + (j - i) = j by omega, ← e] at h1
    -- x y = x
    have k1 := pw_in v d4 kf i
    have k2 := pw_in v d4 kf (j - i)
    have k3 := opC_inC v k1
    have h2 := cm_assoc v k3 k1 k2
    rw [h1, cm_comm v k3 k1, cm_opp v d4 k1, one_cm v d4 k2] at h2
    exact h2
  obtain ⟨k, ⟨k1, hk⟩, hl⟩ := least_nat (p := fun n => 1 ≤ n ∧ pw d f n = eC d) (j - i) ⟨by omega, h⟩
  have := hl (j - i) ⟨by omega, h⟩
  refine ⟨k, k1, by omega, hk, fun n n1 nk en => ?_⟩
  have := hl n ⟨n1, en⟩
  omega
end

namespace R
/-- [v for k in range(n)], each of them by c draws, with a property -/
theorem lcDV {σ : L2.St} {H : Hp} {Q : VK} {te : TE} {p a : Addr} {N c n : Nat} {lo : Int} {g : TG} {vs : List Nat} (P : V → Prop) (hn : n ≤ 900) (d : Dw H p a N)
    (hs : ∀ i H' (Q' : VK), i < n → Dw H' p a (N + c * i) → Kp p H H' → (∀ x H4, P x → Dw H4 p a (N + c * i + c) → Kp p H' H4 → Q' x H4) → g (.int (lo + i)) (wipe σ vs) H' fun σ2 H2 => wipe σ2 vs = wipe σ vs ∧ te σ2 H2 Q')
    (hq : ∀ H' D (xs : List V), H' D = some (.lst xs) → xs.length = n → (∀ x ∈ xs, P x) → Dw H' p a (N + c * n) → Kp p H H' → H D = none → D ≠ p → Q (.ref D) H') : LcJ (Itr lo n) g tYes te vs σ H Q := by
  intro D nD
  have Dp := (d.ne nD).1
  have Da := (d.ne nD).2
  refine lc_range (lo := lo) (n := n) (fun i H' => ∃ xs : List V, H' D = some (.lst xs) ∧ xs.length = i ∧ (∀ x ∈ xs, P x) ∧ Dw H' p a (N + c * i) ∧ Kp p H H')
    ⟨[], upd_same, rfl, (fun x h => nomatch h), (d.new nD).mono (by omega), same_kp (same_upd nD)⟩ (fun i H5 hi ⟨xs, h1, h2, h3, h4, h5⟩ => ?_) (fun H5 ⟨xs, h1, h2, h3, h4, h5⟩ => hq H5 D xs h1 h2 h3 h4 h5 nD Dp)
  refine hs i H5 _ hi h4 h5 (fun x H4 px d4 k4 => ⟨_, k4 _ _ Dp h1, small1000 (by omega), xs ++ [x], upd_same, ?_, ?_, ?_, ?_⟩)
  · rw [List.length_append, h2]
    rfl
  · intro z hz
    rcases List.mem_append.mp hz with hz | hz
    · exact h3 z hz
    · rw [List.mem_singleton.mp hz]
      exact px
  · have e : N + c * (i + 1) = N + c * i + c := by rw [Nat.mul_add, Nat.mul_one, Nat.add_assoc]
    rw [e]
    exact d4.mut Dp Da
  · intro b o hb e
    have e2 := k4 _ _ hb (h5 _ _ hb e)
    rw [upd_ne (ne_of_none e nD)]
    exact e2
end R
theorem opC_move {d : Int} {f : Fm} {m : M4} (v : DvS d) (F : FdF d f) (dm : detM m = 1) : opC d (actM f m) = opC d f := by
  obtain ⟨a, b, c⟩ := f
  obtain ⟨p, q, r, s⟩ := m
  have dm : p * s - q * r = 1 := dm
  obtain ⟨w1, w2, w3⟩ := mir_act a b c p q r s
  have e : mir (actM (a, b, c) (p, q, r, s)) = actM (mir (a, b, c)) (p, -q, -r, s) := by
    show (fA a b c p r, -fB a b c p q r s, fA a b c q s) = (fA a (-b) c p (-r), fB a (-b) c p (-q) (-r) s, fA a (-b) c (-q) s)
    rw [w1, w2, w3]
  unfold opC
  rw [e]
  exact clf_move v F.mir (show p * s - -q * -r = 1 by rw [← dm]; grind)
/-- what one draws from the list of the classes -/
theorem menu_of {K : PySem.W.Frag} {H : Hp} {d : Int} {ys : List V} {ts : List (List Int)} (tp : Tps K H ys ts) (m : ∀ z, z ∈ ts ↔ ClM d z) (v : DvS d) {x : V} (h : x ∈ ys) : ∃ (a : Addr) (f : Fm), x = .ref a ∧ SqT K H a ((fL f).map V.int) ∧ InC d f := by
  obtain ⟨i, hi, e⟩ := List.getElem_of_mem h
  obtain ⟨a, t, rfl, ht, st⟩ := tp.at (i := i) (x := x) (by rw [List.getElem?_eq_getElem hi, e])
  have k := (m t).mp (List.mem_of_getElem? ht)
  obtain ⟨a1, b1, c1, rfl, _⟩ := cl_form v k
  exact ⟨a, (a1, b1, c1), rfl, st, k⟩
section
variable {P : Program} {w : World} {K : PySem.W.Frag} {mg : Str → Option Value} {base : Heap} {fa : Nat → Addr} {fd : Nat → FuncData}
set_option hygiene false
local macro_rules | `(tactic| clean_wf) => `(tactic| (repeat' (first   | with_reducible apply R.var   | with_reducible apply R.gsE   | ((with_reducible apply R.gsN); (focus exact rfl))   | with_reducible apply R.lenS   | ((with_reducible apply R.lenB); exact rfl)   | ((with_reducible apply R.isEq); exact rfl)   | with_reducible apply R.op   | with_reducible apply R.i2   | with_reducible apply R.i0   | with_reducible apply R.con   | with_reducible apply R.cons   | with_reducible apply R.nil   | ((with_reducible apply R.gBd); first | with_reducible assumption | with_reducible apply Bd.mul | with_reducible apply Bd.add | with_reducible apply Bd.sub | ((with_reducible apply Bd.l8); exact eq_true (by decide)) | ((with_reducible apply Bd.lit); exact eq_true (by decide)) | with_reducible apply Bd.neg | with_reducible apply Bd.div | with_reducible apply Bd.abs | with_reducible apply Bd.mod | with_reducible apply Bd.fdiv | ((with_reducible apply Bd.om); omega))   | with_reducible apply Bd.mulW   | ((with_reducible apply R.gSqT); first | with_reducible assumption | ((with_reducible apply SqT.of); with_reducible assumption) | ((with_reducible apply same_seqT); with_reducible assumption) | ((with_reducible apply kp_seqT); with_reducible assumption) | with_reducible apply hU)   | ((with_reducible apply R.isLe); first | decide | omega)   | with_reducible apply R.gcons   | with_reducible apply R.gname   | ((with_reducible apply R.ixT); (focus ((repeat' (first | with_reducible assumption | with_reducible apply hU | ((with_reducible apply SqT.of); with_reducible assumption) | ((with_reducible apply same_seqT); with_reducible assumption) | ((with_reducible apply kp_seqT); with_reducible assumption) | ((with_reducible apply Dw.same); with_reducible assumption))); done)); exact rfl)   | ((with_reducible apply R.ixL); (focus ((repeat' (first | with_reducible assumption | ((with_reducible apply SqL.of); with_reducible assumption) | ((with_reducible apply Same.seq); with_reducible assumption) | ((with_reducible apply Kp.seqL); with_reducible assumption) | ((with_reducible apply fresh_ne); with_reducible assumption) | ((with_reducible apply Dw.same); with_reducible assumption))); done)); exact rfl)   | with_reducible apply R.test   | with_reducible apply R.tb'   | with_reducible apply R.isbl   | with_reducible apply R.cmp   | with_reducible apply R.t2i   | with_reducible apply R.intp   | with_reducible apply R.ifs   | with_reducible apply R.asg   | with_reducible apply R.seq   | with_reducible apply R.gtup   | with_reducible apply R.u1   | with_reducible apply R.un   | with_reducible apply R.ret   | with_reducible apply R.next   | with_reducible apply R.call   | with_reducible apply iteT   | with_reducible apply iteF   | with_reducible assumption   | with_reducible apply R.tup   | with_reducible apply R.lst   | with_reducible apply R.callB   | with_reducible apply R.gnil   | with_reducible apply R.brk   | with_reducible apply R.cont   | with_reducible apply R.drop   | with_reducible apply R.par   | with_reducible apply R.par2   | with_reducible apply R.par3   | with_reducible apply R.par4   | with_reducible apply R.tif   | with_reducible apply R.and   | with_reducible apply R.or   | with_reducible apply R.not   | with_reducible apply R.andV   | with_reducible apply R.orV   | with_reducible apply R.notV   | with_reducible apply R.chain   | with_reducible apply R.tupL   | with_reducible apply R.lstL   | with_reducible apply R.cat   | with_reducible apply R.absI   | with_reducible apply R.intI   | with_reducible apply R.intB   | with_reducible apply R.eqS   | with_reducible apply R.eqBl   | with_reducible apply R.neBl   | with_reducible apply R.sl   | with_reducible apply R.noPart   | with_reducible apply R.part   | with_reducible apply R.isInt   | with_reducible apply R.slL   | with_reducible apply R.isiT   | with_reducible apply R.isiLst   | with_reducible apply R.nwT   | with_reducible apply R.nwL   | ((with_reducible apply R.mt); intro HN tn sn nn ht)   | ((with_reducible apply R.ml); intro HN tn sn nn ht)   | ((with_reducible apply R.isiTupS); focus ((repeat' (first | with_reducible assumption | with_reducible apply hU | ((with_reducible apply SqT.of); with_reducible assumption) | ((with_reducible apply same_seqT); with_reducible assumption) | ((with_reducible apply kp_seqT); with_reducible assumption) | ((with_reducible apply Dw.same); with_reducible assumption))); done))   | ((with_reducible apply R.ne4); focus ((repeat' (first | with_reducible assumption | with_reducible apply hU | ((with_reducible apply SqT.of); with_reducible assumption) | ((with_reducible apply same_seqT); with_reducible assumption) | ((with_reducible apply kp_seqT); with_reducible assumption) | ((with_reducible apply Dw.same); with_reducible assumption))); done))   | ((with_reducible apply R.ne3); focus ((repeat' (first | with_reducible assumption | with_reducible apply hU | ((with_reducible apply SqT.of); with_reducible assumption) | ((with_reducible apply same_seqT); with_reducible assumption) | ((with_reducible apply kp_seqT); with_reducible assumption) | ((with_reducible apply Dw.same); with_reducible assumption))); done))   | ((with_reducible apply R.ne2); focus ((repeat' (first | with_reducible assumption | with_reducible apply hU | ((with_reducible apply SqT.of); with_reducible assumption) | ((with_reducible apply same_seqT); with_reducible assumption) | ((with_reducible apply kp_seqT); with_reducible assumption) | ((with_reducible apply Dw.same); with_reducible assumption))); done))   | ((with_reducible apply R.eq4); focus ((repeat' (first | with_reducible assumption | with_reducible apply hU | ((with_reducible apply SqT.of); with_reducible assumption) | ((with_reducible apply same_seqT); with_reducible assumption) | ((with_reducible apply kp_seqT); with_reducible assumption) | ((with_reducible apply Dw.same); with_reducible assumption))); done))   | ((with_reducible apply R.eq3); focus ((repeat' (first | with_reducible assumption | with_reducible apply hU | ((with_reducible apply SqT.of); with_reducible assumption) | ((with_reducible apply same_seqT); with_reducible assumption) | ((with_reducible apply kp_seqT); with_reducible assumption) | ((with_reducible apply Dw.same); with_reducible assumption))); done))   | ((with_reducible apply R.eq2); focus ((repeat' (first | with_reducible assumption | with_reducible apply hU | ((with_reducible apply SqT.of); with_reducible assumption) | ((with_reducible apply same_seqT); with_reducible assumption) | ((with_reducible apply kp_seqT); with_reducible assumption) | ((with_reducible apply Dw.same); with_reducible assumption))); done))   | ((with_reducible apply R.nw); intro HN tn sn ht)   | with_reducible apply R.notT   | with_reducible apply R.notF   | ((with_reducible apply SqL.of); with_reducible assumption)   | ((with_reducible apply sameB); with_reducible assumption)   | ((with_reducible apply same_at); with_reducible assumption)   | ((with_reducible apply Same.seq); with_reducible assumption)   | ((with_reducible apply Kp.seqL); with_reducible assumption)   | ((with_reducible apply fresh_ne); with_reducible assumption)   | ((with_reducible apply Dw.same); with_reducible assumption)   | ((with_reducible apply R.isEq); exact eq_true (by first | decide | omega))   | ((with_reducible apply R.isLt); first | decide | omega)   | ((with_reducible apply R.isLtI); first | decide | omega)   | ((with_reducible apply R.isLeI); first | decide | omega)   | ((with_reducible apply R.cdiv); exact rfl)   | ((with_reducible apply R.cpow); exact rfl)   | with_reducible apply R.cdivX   | ((with_reducible apply R.isNe); omega)   | ((with_reducible apply wayNF); first | exact rfl | exact ⟨rfl, rfl⟩ | exact ⟨rfl, rfl, rfl⟩ | exact ⟨rfl, rfl, rfl, rfl⟩)   | with_reducible apply R.bm   | ((with_reducible apply R.bmT); (focus ((first | with_reducible assumption | ((with_reducible apply same_at); with_reducible assumption) | ((with_reducible apply kp_at); with_reducible assumption)); done)))   | with_reducible apply R.dput   | with_reducible apply R.dget   | with_reducible apply R.din   | with_reducible apply R.dget2   | with_reducible apply R.forE   | with_reducible apply R.rng1   | with_reducible apply R.rng2   | with_reducible apply R.rg1   | with_reducible apply R.rg2   | with_reducible apply R.lcE   | with_reducible apply R.itup   | with_reducible apply R.ilst   | with_reducible apply uLawNext   | with_reducible apply uLawChange   | with_reducible apply uMultiply   | with_reducible apply uDeterminant   | with_reducible apply uNegative   | with_reducible apply uLawMul   | with_reducible apply uLawWorth   | with_reducible apply uWorth   | with_reducible apply uScaled   | with_reducible apply uDiscriminant   | with_reducible apply uInverse   | with_reducible apply uAct   | with_reducible apply uLawAct   | with_reducible apply uLawSquare   | with_reducible apply uLawRoot   | with_reducible apply uFloorRoot   | with_reducible apply uIsReducedDefinite   | with_reducible apply uStepDown   | with_reducible apply uIsReducedIndefinite   | with_reducible apply uStepOf   | with_reducible apply uStepNear   | with_reducible apply uDirected   | with_reducible apply uCompleted   | with_reducible apply uBezout   | with_reducible apply uContent   | with_reducible apply uFlatParts   | with_reducible apply uCycle   | with_reducible apply uKind   | with_reducible apply uIsSquare   | fail   )))
local macro_rules | `(tactic| sizeOf_list_dec) => `(tactic| (repeat' (first | with_reducible exact Kp.refl | with_reducible assumption | ((with_reducible apply kpB); first | with_reducible assumption | ((with_reducible apply same_kp); with_reducible assumption)))))
local macro_rules | `(tactic| array_get_dec) => `(tactic| (repeat' (first | with_reducible assumption | ((with_reducible apply SqL.of); with_reducible assumption) | ((with_reducible apply Same.seq); with_reducible assumption) | ((with_reducible apply Kp.seqL); with_reducible assumption) | ((with_reducible apply fresh_ne); with_reducible assumption) | ((with_reducible apply Dw.same); with_reducible assumption))))
local macro_rules | `(tactic| simp_wf) => `(tactic| (repeat' (first | with_reducible assumption | with_reducible apply hU | ((with_reducible apply SqT.of); with_reducible assumption) | ((with_reducible apply same_seqT); with_reducible assumption) | ((with_reducible apply kp_seqT); with_reducible assumption) | ((with_reducible apply Dw.same); with_reducible assumption))))
local macro_rules | `(tactic| array_mem_dec) => `(tactic| (repeat' (first | with_reducible exact Same.refl _ | with_reducible assumption | ((with_reducible apply sameB); with_reducible assumption))))
set_option hygiene true
def spBezout (_ : PySem.W.Frag) : Sp := fun vs H Q _ => ∃ a b : Int, vs = [.int a, .int b] ∧ a.natAbs < 2 ^ 9400 ∧ b.natAbs < 2 ^ 8990 ∧
  ∀ p u v, H p = none → u * a + v * b = gI a b → u.natAbs < 2 ^ 9404 → v.natAbs < 2 ^ 9404 → Q (.ref p) (upd H p (.tup [.int (gI a b), .int u, .int v]))
theorem uBezout {K : PySem.W.Frag} {H : Hp} {Q : VK} {E : XK} {vs : List V} {a b : Int} (e : vs = [.int a, .int b]) (h1 : a.natAbs < 1152921504606846976) (h2 : b.natAbs < 1152921504606846976)
    (kk : ∀ H' p u v, Same H H' → H' p = some (.tup [.int (gI a b), .int u, .int v]) → u * a + v * b = gI a b → Bd 9404 u → Bd 9404 v → Q (.ref p) H') : spBezout K vs H Q E :=
  ⟨a, b, e, pow_up (a := 60) h1 (by decide), pow_up (a := 60) h2 (by decide), fun p u v n e1 b1 b2 => kk _ p u v (same_upd n) upd_same e1 b1 b2⟩
theorem okBezout (T : Txt K mg fa fd) : FnOk P w K mg base CX0 1 (fa 0) (fd 0) ["a", "b"] (spBezout K) := by
  refine T.F_bezout.ok scBezout (fun vs H Q E h => ?_) (fun cdv A outer s H vs Q E hr h => ?_)
  · obtain ⟨a, b, rfl, ha, hb, q⟩ := h
    rfl
  · obtain ⟨a, b, rfl, ha, hb, q⟩ := h
    refine ⟨_, (pss_cons (ps_par3 (i := 2) (j := 3) (l := 4) (by rfl) scBezout.nd rfl rfl rfl (by decide) (by decide) (by decide) rfl rfl rfl (pa_cons (pv 0) (pa_cons pe_int (pa_cons pe_int pa_nil))) (by rfl))
      (pss_cons (ps_par3 (i := 5) (j := 6) (l := 7) (by rfl) scBezout.nd rfl rfl rfl (by decide) (by decide) (by decide) rfl rfl rfl (pa_cons (pv 1) (pa_cons pe_int (pa_cons pe_int pa_nil))) (by rfl))
      (pss_cons (ps_while PassesOwn.never (pt_cmp (pc_neI (pv 5) pe_int))
      (pss_cons (ps_set (i := 8) scBezout.nd rfl (Or.inl rfl) (pe_op op_fdivX (pv 2) (pv 5)))
        (pss_cons (ps_par (i := 2) (j := 5) (by rfl) scBezout.nd rfl rfl (by decide) rfl rfl (pa_cons (pv 5) (pa_cons (pe_op op_sub (pv 2) (pe_op op_mulW (pv 8) (pv 5))) pa_nil)) (by rfl))
        (pss_cons (ps_par (i := 3) (j := 6) (by rfl) scBezout.nd rfl rfl (by decide) rfl rfl (pa_cons (pv 6) (pa_cons (pe_op op_sub (pv 3) (pe_op op_mulW (pv 8) (pv 6))) pa_nil)) (by rfl))
        (pss_one (ps_par (i := 4) (j := 7) (by rfl) scBezout.nd rfl rfl (by decide) rfl rfl (pa_cons (pv 7) (pa_cons (pe_op op_sub (pv 4) (pe_op op_mulW (pv 8) (pv 7))) pa_nil)) (by rfl)))))))
      (pss_cons (ps_if (pt_cmp (pc_lt (pv 2) pe_int))
      (pss_one (ps_ret (pe_tup (pa_cons (pe_un un_neg (pv 2)) (pa_cons (pe_un un_neg (pv 3)) (pa_cons (pe_un un_neg (pv 4)) pa_nil))))))
      pss_nil)
      (pss_one (ps_ret (pe_tup (pa_cons (pv 2) (pa_cons (pv 3) (pa_cons (pv 4) pa_nil)))))))))), ?_⟩
    refine ⟨_, rfl, _, _, _, rfl, _, rfl, _, _, _, rfl, ?_⟩
    refine ⟨fun m σ H' => ∃ (g u v r ru rv : Int) (x8 : Option V), σ = [some (.int a), some (.int b), some (.int g), some (.int u), some (.int v), some (.int r), some (.int ru), some (.int rv), x8] ∧ m = r.natAbs ∧ H' = H ∧ Bz a b g u v r ru rv,
      ⟨_, a, 1, 0, b, 0, 1, none, rfl, rfl, rfl, by omega, by omega, ⟨rfl, by omega, by omega⟩, .inl ⟨rfl, rfl, rfl, rfl, rfl, rfl⟩⟩, ?_⟩
    rintro m σ H' ⟨g, u, v, r, ru, rv, x8, rfl, rfl, rfl, hz⟩
    refine ⟨_, rfl, _, _, rfl, rfl, _, rfl, wayN2 (fun hr => ?_) (fun hr => ?_)⟩
    · obtain ⟨s1, s2, s3, s4⟩ := hz.size hr
      have up : (2 : Nat) ^ 8990 ≤ 2 ^ 9400 := Nat.pow_le_pow_right (by decide) (by decide)
      have e4 : (2 : Nat) ^ 9404 = 2 ^ 9400 * 16 := Nat.pow_add 2 9400 4
      have q1 : (g.fdiv r).natAbs < 2 ^ 9404 := by omega
      have q2 : r.natAbs < 2 ^ 9000 := pow_up (Nat.lt_of_le_of_lt s2 hb) (by decide)
      have q3 : ru.natAbs < 2 ^ 9404 := by omega
      have q4 : rv.natAbs < 2 ^ 9404 := by omega
      refine ⟨fun σ' H2 => ∃ (g' u' v' r' ru' rv' : Int) (x8 : Option V), σ' = [some (.int a), some (.int b), some (.int g'), some (.int u'), some (.int v'), some (.int r'), some (.int ru'), some (.int rv'), x8] ∧ r'.natAbs < r.natAbs ∧ H2 = H' ∧ Bz a b g' u' v' r' ru' rv', ?_, ?_⟩
      · rintro σ' H2 ⟨g', u', v', r', ru', rv', x8', rfl, hl, rfl, hz'⟩
        exact ⟨_, hl, g', u', v', r', ru', rv', x8', rfl, rfl, rfl, hz'⟩
      · refine ⟨_, rfl, _, rfl, _, _, rfl, rfl, ⟨hr, q2⟩, ?_⟩
        refine ⟨_, rfl, _, rfl, _, rfl, _, rfl, _, _, rfl, rfl, wide_mul q1 q2 (by decide) (by decide) (by decide), _, _, rfl, rfl, _, _, rfl, ?_⟩
        refine ⟨_, rfl, _, rfl, _, rfl, _, rfl, _, _, rfl, rfl, wide_mul q1 q3 (by decide) (by decide) (by decide), _, _, rfl, rfl, _, _, rfl, ?_⟩
        refine ⟨_, rfl, _, rfl, _, rfl, _, rfl, _, _, rfl, rfl, wide_mul q1 q4 (by decide) (by decide) (by decide), _, _, rfl, rfl, _, _, rfl, ?_⟩
        exact ⟨_, _, _, _, _, _, _, rfl, (fd_rest hr).1, rfl, hz.step hr⟩
    · subst hr
      obtain ⟨h1, h2, ⟨h3, hu, hv⟩, h4⟩ := hz
      have up : (2 : Nat) ^ 8990 ≤ 2 ^ 9400 := Nat.pow_le_pow_right (by decide) (by decide)
      have e4 : (2 : Nat) ^ 9404 = 2 ^ 9400 * 16 := Nat.pow_add 2 9400 4
      have hg : ((g.natAbs : Nat) : Int) = gI a b := by
        rw [← h3]
        simp
      refine ⟨_, rfl, _, _, rfl, rfl, _, rfl, way2 (fun hn => ?_) (fun hn => ?_)⟩
      · refine ⟨_, rfl, _, rfl, _, rfl, _, rfl, _, rfl, _, rfl, by show 3 ≤ sizeLine; decide, fun p hp => ?_⟩
        have eg : -g = gI a b := by omega
        have k := q p (-u) (-v) hp (by rw [Int.neg_mul, Int.neg_mul]; omega) (by omega) (by omega)
        rw [← eg] at k
        exact k
      · refine ⟨_, rfl, _, rfl, _, rfl, by show 3 ≤ sizeLine; decide, fun p hp => ?_⟩
        have eg : g = gI a b := by omega
        have k := q p u v hp (by omega) (by omega) (by omega)
        rw [← eg] at k
        exact k
def spMeasure (K : PySem.W.Frag) : Sp := fun vs H Q _ => ∃ (l : Addr) (ns : List Int), vs = [.ref l] ∧ (SqL K H l (ns.map V.int) ∨ SqT K H l (ns.map V.int)) ∧ Q (.int (gL ns)) H
theorem uMeasureT {K : PySem.W.Frag} {H : Hp} {Q : VK} {E : XK} {vs : List V} {l : Addr} {x y : Int} (e : vs = [.ref l]) (hs : SqT K H l [.int x, .int y]) (kk : Q (.int (gL [x, y])) H) : spMeasure K vs H Q E := ⟨l, [x, y], e, .inr hs, kk⟩
theorem okMeasure (T : Txt K mg fa fd) : FnOk P w K mg base CX0 1 (fa 1) (fd 1) ["numbers"] (spMeasure K) := by
  refine T.F_measure.ok scMeasure (fun vs H Q E h => ?_) (fun cdv A outer s H vs Q E hr h => ?_)
  · obtain ⟨l, ns, rfl, hS, q⟩ := h
    rfl
  · obtain ⟨l, ns, rfl, hS, q⟩ := h
    rcases hS with hS | hS
    · refine ⟨_, (pss_cons (ps_set (i := 1) scMeasure.nd rfl (Or.inl rfl) pe_int)
      (pss_cons (ps_for PassesOwn.never rfl (piL K (pv 0)) (pg_name (i := 2) scMeasure.nd rfl (Or.inl rfl))
      (pss_one (ps_set (i := 1) scMeasure.nd rfl (Or.inl rfl) (pe_callBfun cr_gcd (by rfl) T.g_gcd (pa_cons (pv 1) (pa_cons (pv 2) pa_nil))))))
      (pss_one (ps_ret (pv 1))))), ?_⟩
      refine ⟨_, rfl, l, rfl, ⟨_, hS⟩, for_list (K := K) (a := l) (xs := ns.map V.int) (fun i σ H' => ∃ x2, σ = [some (.ref l), some (.int (gL (ns.take i))), x2] ∧ H' = H) ⟨_, rfl, rfl⟩ (fun i σ H' hi ⟨x2, e1, e2⟩ => by rw [e2]; exact hS) (fun i x σ H' hx ⟨x2, e1, e2⟩ => ?_) (fun σ H' ⟨x2, e1, e2⟩ => ?_)⟩
      · subst e1 e2
        rw [List.getElem?_map] at hx
        cases hn : ns[i]? with
        | none =>
          rw [hn] at hx
          cases hx
        | some n =>
          rw [hn] at hx
          cases hx
          refine ⟨_, rfl, _, rfl, _, _, rfl, some (.int n), ?_, rfl⟩
          rw [gL_take hn]
          rfl
      · subst e1 e2
        refine ⟨_, rfl, ?_⟩
        rw [List.length_map, List.take_length]
        exact q
    · refine ⟨_, (pss_cons (ps_set (i := 1) scMeasure.nd rfl (Or.inl rfl) pe_int)
      (pss_cons (ps_for PassesOwn.never rfl (piT K (pv 0)) (pg_name (i := 2) scMeasure.nd rfl (Or.inl rfl))
      (pss_one (ps_set (i := 1) scMeasure.nd rfl (Or.inl rfl) (pe_callBfun cr_gcd (by rfl) T.g_gcd (pa_cons (pv 1) (pa_cons (pv 2) pa_nil))))))
      (pss_one (ps_ret (pv 1))))), ?_⟩
      refine ⟨_, rfl, l, rfl, ⟨_, hS⟩, for_tup (K := K) (a := l) (xs := ns.map V.int) (fun i σ H' => ∃ x2, σ = [some (.ref l), some (.int (gL (ns.take i))), x2] ∧ H' = H) ⟨_, rfl, rfl⟩ (fun i σ H' hi ⟨x2, e1, e2⟩ => by rw [e2]; exact hS) (fun i x σ H' hx ⟨x2, e1, e2⟩ => ?_) (fun σ H' ⟨x2, e1, e2⟩ => ?_)⟩
      · subst e1 e2
        rw [List.getElem?_map] at hx
        cases hn : ns[i]? with
        | none =>
          rw [hn] at hx
          cases hx
        | some n =>
          rw [hn] at hx
          cases hx
          refine ⟨_, rfl, _, rfl, _, _, rfl, some (.int n), ?_, rfl⟩
          rw [gL_take hn]
          rfl
      · subst e1 e2
        refine ⟨_, rfl, ?_⟩
        rw [List.length_map, List.take_length]
        exact q
def spFloorRoot (_ : PySem.W.Frag) : Sp := fun vs H Q _ => ∃ n : Int, vs = [.int n] ∧ 0 ≤ n ∧ n.natAbs < 2 ^ 13000 ∧ Q (.int (rootI n)) H
theorem uFloorRoot {K : PySem.W.Frag} {H : Hp} {Q : VK} {E : XK} {vs : List V} {n : Int} (e : vs = [.int n]) (h0 : 0 ≤ n) (h1 : n < 1000000000000000000) (kk : Q (.int (rootI n)) H) : spFloorRoot K vs H Q E :=
  ⟨n, e, h0, pow_up (a := 60) (by show n.natAbs < 1152921504606846976; omega) (by decide), kk⟩
theorem okFloorRoot (T : Txt K mg fa fd) : FnOk P w K mg base CX0 1 (fa 2) (fd 2) ["n"] (spFloorRoot K) := by
  refine T.F_floor_root.ok scFloorRoot (fun vs H Q E h => ?_) (fun cdv A outer s H vs Q E hr h => ?_)
  · obtain ⟨n, rfl, h0, h1, q⟩ := h
    rfl
  · obtain ⟨n, rfl, h0, h1, q⟩ := h
    refine ⟨_, (pss_one (ps_ret (pe_callBfun cr_isqrt (by rfl) T.g_isqrt (pa_cons (pv 0) pa_nil)))), ?_⟩
    exact ⟨_, rfl, _, rfl, h0, h1, q⟩
def spIsSquare (_ : PySem.W.Frag) : Sp := fun vs H Q _ => ∃ n : Int, vs = [.int n] ∧ n.natAbs < 2 ^ 13000 ∧ Q (.bl (decide (0 ≤ n ∧ rootI n * rootI n = n))) H
theorem uIsSquare {K : PySem.W.Frag} {H : Hp} {Q : VK} {E : XK} {vs : List V} {n : Int} {m : Nat} (hev : vs = [.int n]) (h0 : Bd m n) (h1 : Nat.ble m 13000 = true) (kk : Q (.bl (decide (0 ≤ n ∧ rootI n * rootI n = n))) H) : spIsSquare K vs H Q E := ⟨n, hev, bdm h0 h1, kk⟩
theorem okIsSquare (T : Txt K mg fa fd) : FnOk P w K mg base CX0 2 (fa 3) (fd 3) ["n"] (spIsSquare K) := by
  refine T.F_is_square.ok scIsSquare (fun vs H Q E h => ?_) (fun cdv A outer s H vs Q E hr h => ?_)
  · obtain ⟨n, rfl, h1, q⟩ := h
    rfl
  · obtain ⟨n, rfl, h1, q⟩ := h
    refine ⟨_, (pss_cons (ps_if (pt_cmp (pc_lt (pv 0) pe_int))
      (pss_one (ps_ret pe_bl))
      pss_nil)
      (pss_cons (ps_set (i := 1) scIsSquare.nd rfl (Or.inl rfl) (pe_call (sp := spFloorRoot K) (okFloorRoot T) hr (by rfl) T.G_floor_root T.F_floor_root.kp T.B_floor_root .nil pass0 (pa_cons (pv 0) pa_nil)))
      (pss_one (ps_ret (pe_cmp (pc_eqI (pe_op op_mulW (pv 1) (pv 1)) (pv 0))))))), ?_⟩
    refine ⟨_, rfl, _, _, rfl, rfl, _, rfl, ite2 (fun e => ?_) (fun e => ?_)⟩
    · have e1 : n < 0 := of_decide_eq_true e
      have e2 : decide (0 ≤ n ∧ rootI n * rootI n = n) = false := decide_eq_false fun z => by omega
      rw [e2] at q
      exact q
    · have e1 : ¬ n < 0 := fun z => e (decide_eq_true z)
      have h0 : 0 ≤ n := by omega
      have hr := rootI_lt h0 h1
      refine ⟨_, rfl, n, rfl, h0, h1, _, rfl, _, rfl, _, _, rfl, rfl, wide_mul hr hr (by decide) (by decide) (by decide), _, rfl, _, _, rfl, rfl, ?_⟩
      have e2 : decide (0 ≤ n ∧ rootI n * rootI n = n) = decide (rootI n * rootI n = n) := by
        rw [decide_eq_decide]
        exact ⟨fun z => z.2, fun z => ⟨h0, z⟩⟩
      rw [e2] at q
      exact q
def spPowerModulo (_ : PySem.W.Frag) : Sp := fun vs H Q _ => ∃ (z : Int) (b e m : Nat), vs = [.int z, .int (e : Int), .int (m : Int)] ∧ 0 < m ∧ m < 2 ^ 64 ∧ e < 2 ^ 64 ∧ z % (m : Int) = ((b % m : Nat) : Int) ∧ Q (.int ((pmod b e m : Nat) : Int)) H
theorem okPowerModulo (T : Txt K mg fa fd) : FnOk P w K mg base CX0 1 (fa 4) (fd 4) ["base", "many", "modulus"] (spPowerModulo K) := by
  refine T.F_power_modulo.ok scPowerModulo (fun vs H Q E h => ?_) (fun cdv A outer s H vs Q E hr h => ?_)
  · obtain ⟨z, b, e, m, rfl, m0, m1, e1, hz, q⟩ := h
    rfl
  · obtain ⟨z, b, e, m, rfl, m0, m1, e1, hz, q⟩ := h
    refine ⟨_, (pss_cons (ps_set (i := 3) scPowerModulo.nd rfl (Or.inl rfl) pe_int)
      (pss_cons (ps_set (i := 4) scPowerModulo.nd rfl (Or.inl rfl) (pe_op op_mod (pv 0) (pv 2)))
      (pss_cons (ps_while PassesOwn.never (pt_cmp (pc_gt (pv 1) pe_int))
      (C8.pss_cut (ps_if (pt_cmp (pc_eqI (pe_op modNN (pv 1) pe_int) pe_int))
        (pss_one (ps_set (i := 3) scPowerModulo.nd rfl (Or.inl rfl) (pe_op modNN (pe_op mulNN (pv 3) (pv 4)) (pv 2))))
        pss_nil)
        (pss_cons (ps_set (i := 4) scPowerModulo.nd rfl (Or.inl rfl) (pe_op modNN (pe_op mulNN (pv 4) (pv 4)) (pv 2)))
        (pss_one (ps_set (i := 1) scPowerModulo.nd rfl (Or.inl rfl) (pe_op divNN (pv 1) pe_int))))))
      (pss_one (ps_ret (pv 3)))))), ?_⟩
    refine ⟨_, rfl, _, rfl, _, _, rfl, rfl, by show (0 : Int) < (m : Int); omega, ?_⟩
    dsimp only
    rw [hz]
    refine ⟨fun t σ H' => ∃ (f r s k : Nat), σ = [some (.int z), some (.int (k : Int)), some (.int (m : Int)), some (.int (r : Int)), some (.int (s : Int))] ∧ t = k ∧ H' = H ∧ k < 2 ^ f ∧ s < m ∧ pmL m f r s k = pmod b e m,
      ⟨_, 64, 1, b % m, e, rfl, rfl, rfl, e1, Nat.mod_lt _ m0, rfl⟩, ?_⟩
    rintro t σ H' ⟨f, r, s, k, rfl, rfl, rfl, hk, hs, hr⟩
    refine ⟨_, rfl, _, _, rfl, rfl, _, rfl, way2 (fun h => ?_) (fun h => ?_)⟩
    · have k0 : t ≠ 0 := by omega
      obtain ⟨g, rfl⟩ : ∃ g, f = g + 1 := ⟨f - 1, by
        cases f with
        | zero => rw [Nat.pow_zero] at hk; omega
        | succ g => omega⟩
      unfold pmL at hr
      rw [bifF (beqF k0)] at hr
      have s64 : s < 2 ^ 64 := Nat.lt_trans hs m1
      refine ⟨fun σ' H2 => ∃ (f r s k : Nat), σ' = [some (.int z), some (.int (k : Int)), some (.int (m : Int)), some (.int (r : Int)), some (.int (s : Int))] ∧ k < t ∧ H2 = H' ∧ k < 2 ^ f ∧ s < m ∧ pmL m f r s k = pmod b e m, ?_, ?_⟩
      · rintro σ' H2 ⟨f, r, s, k, e1, e2, e3, e4⟩
        exact ⟨k, e2, f, r, s, k, e1, rfl, e3, e4⟩
      · refine ⟨fun σ' H2 => σ' = [some (.int z), some (.int (t : Int)), some (.int (m : Int)), some (.int ((bif (t % 2).beq 1 then r * s % m else r : Nat) : Int)), some (.int (s : Int))] ∧ H2 = H', ?_, ?_⟩
        · refine ⟨_, rfl, t, 2, rfl, rfl, by decide, _, _, rfl, rfl, _, rfl, way2 (fun h2 => ?_) (fun h2 => ?_)⟩
          · have e2 : t % 2 = 1 := by omega
            rw [bifT (beqT e2)]
            exact ⟨_, rfl, _, rfl, r, s, rfl, rfl, .inr s64, _, rfl, r * s, m, rfl, rfl, m0, rfl, rfl⟩
          · have e2 : t % 2 ≠ 1 := by omega
            rw [bifF (beqF e2)]
            exact ⟨rfl, rfl⟩
        · rintro σ' H2 ⟨rfl, rfl⟩
          refine ⟨_, rfl, _, rfl, s, s, rfl, rfl, .inr s64, _, rfl, s * s, m, rfl, rfl, m0, ?_⟩
          refine ⟨_, rfl, t, 2, rfl, rfl, div9 (by decide) (by decide), g, _, s * s % m, t / 2, rfl, by omega, rfl, ?_, Nat.mod_lt _ m0, hr⟩
          have e3 : (2 : Nat) ^ (g + 1) = 2 ^ g * 2 := Nat.pow_succ _ _
          omega
    · have k0 : t = 0 := by omega
      subst k0
      refine ⟨_, rfl, ?_⟩
      have e2 : pmL m f r s 0 = r := by
        cases f with
        | zero => rfl
        | succ g => rfl
      rw [e2] at hr
      rw [← hr] at q
      exact q
def spTakenOut (_ : PySem.W.Frag) : Sp := fun vs H Q _ => ∃ n p : Nat, vs = [.int (n : Int), .int (p : Int)] ∧ 0 < n ∧ n < 2 ^ 64 ∧ 2 ≤ p ∧ p < 2 ^ 64 ∧
  ∀ t, H t = none → Q (.ref t) (upd H t (.tup [.int ((takenOut n p).1 : Int), .int ((takenOut n p).2 : Int)]))
theorem okTakenOut (T : Txt K mg fa fd) : FnOk P w K mg base CX0 1 (fa 5) (fd 5) ["n", "p"] (spTakenOut K) := by
  refine T.F_taken_out.ok scTakenOut (fun vs H Q E h => ?_) (fun cdv A outer s H vs Q E hr h => ?_)
  · obtain ⟨n, p, rfl, n0, n1, p0, p1, q⟩ := h
    rfl
  · obtain ⟨n, p, rfl, n0, n1, p0, p1, q⟩ := h
    refine ⟨_, (pss_cons (ps_set (i := 2) scTakenOut.nd rfl (Or.inl rfl) pe_int)
      (pss_cons (ps_while PassesOwn.never (pt_cmp (pc_eqI (pe_op modNN (pv 0) (pv 1)) pe_int))
      (pss_cons (ps_set (i := 0) scTakenOut.nd rfl (Or.inl rfl) (pe_op divNN (pv 0) (pv 1)))
        (pss_one (ps_aug (i := 2) scTakenOut.nd rfl (Or.inl rfl) pe_int ip_add))))
      (pss_one (ps_ret (pe_tup (pa_cons (pv 2) (pa_cons (pv 0) pa_nil))))))), ?_⟩
    refine ⟨fun t σ H' => ∃ (f x k : Nat), σ = [some (.int (x : Int)), some (.int (p : Int)), some (.int (k : Int))] ∧ t = x ∧ H' = H ∧ 0 < x ∧ x < 2 ^ f ∧ toL p f x k = takenOut n p,
      ⟨_, 64, n, 0, rfl, rfl, rfl, n0, n1, rfl⟩, ?_⟩
    rintro t σ H' ⟨f, x, k, rfl, rfl, rfl, x0, x1, hr⟩
    refine ⟨_, rfl, _, rfl, t, p, rfl, rfl, by omega, _, _, rfl, rfl, _, rfl, way2 (fun h => ?_) (fun h => ?_)⟩
    · have k0 : t % p = 0 := by omega
      obtain ⟨g, rfl⟩ : ∃ g, f = g + 1 := ⟨f - 1, by
        cases f with
        | zero => rw [Nat.pow_zero] at x1; omega
        | succ g => omega⟩
      unfold toL at hr
      rw [bifT (beqT k0)] at hr
      have hle : p ≤ t := Nat.le_of_dvd x0 (Nat.dvd_of_mod_eq_zero k0)
      have d0 : 0 < t / p := Nat.div_pos hle (by omega)
      have d1 : t / p ≤ t / 2 := Nat.div_le_div_left p0 (by decide)
      refine ⟨fun σ' H2 => ∃ (f x k : Nat), σ' = [some (.int (x : Int)), some (.int (p : Int)), some (.int (k : Int))] ∧ x < t ∧ H2 = H' ∧ 0 < x ∧ x < 2 ^ f ∧ toL p f x k = takenOut n p, ?_, ?_⟩
      · rintro σ' H2 ⟨f, x, k, e1, e2, e3, e4⟩
        exact ⟨x, e2, f, x, k, e1, rfl, e3, e4⟩
      · refine ⟨_, rfl, _, rfl, t, p, rfl, rfl, div9 (by omega) p1, ?_⟩
        refine ⟨_, rfl, _, _, rfl, rfl, g, t / p, k + 1, rfl, by omega, rfl, d0, ?_, hr⟩
        have e3 : (2 : Nat) ^ (g + 1) = 2 ^ g * 2 := Nat.pow_succ _ _
        omega
    · have k0 : t % p ≠ 0 := by omega
      refine ⟨_, rfl, _, rfl, by show 2 ≤ sizeLine; decide, fun u nu => ?_⟩
      have e2 : toL p f t k = (k, t) := by
        cases f with
        | zero => rfl
        | succ g =>
          unfold toL
          rw [bifF (beqF k0)]
      rw [e2] at hr
      rw [← hr] at q
      exact q u nu
def spBehavesAsPrime (_ : PySem.W.Frag) : Sp := fun vs H Q _ => ∃ n b m o : Nat, vs = [.int (n : Int), .int (b : Int), .int (m : Int), .int (o : Int)] ∧ 1 < n ∧ n < 2 ^ 64 ∧ m < 2 ^ 60 ∧ o < 2 ^ 64 ∧ Q (.bl (behaves n b m o)) H
theorem okBehavesAsPrime (T : Txt K mg fa fd) : FnOk P w K mg base CX0 2 (fa 7) (fd 7) ["n", "base", "many", "odd"] (spBehavesAsPrime K) := by
  refine T.F__behaves_as_prime.ok scBehavesAsPrime (fun vs H Q E h => ?_) (fun cdv A outer s H vs Q E hr h => ?_)
  · obtain ⟨n, b, m, o, rfl, n0, n1, m1, o1, q⟩ := h
    rfl
  · obtain ⟨n, b, m, o, rfl, n0, n1, m1, o1, q⟩ := h
    refine ⟨_, (pss_cons (ps_set (i := 4) scBehavesAsPrime.nd rfl (Or.inl rfl) (pe_call (sp := spPowerModulo K) (okPowerModulo T) hr (by rfl) T.G_power_modulo T.F_power_modulo.kp T.B_power_modulo .nil pass0 (pa_cons (pv 1) (pa_cons (pv 3) (pa_cons (pv 0) pa_nil)))))
      (pss_cons (ps_if (pt_cmp (pc_eqI (pv 4) pe_int))
      (pss_one (ps_ret pe_bl))
      pss_nil)
      (pss_cons (ps_for PassesOwn.never rfl (pi_range1 (by rfl) T.m_range (pa_cons (pv 2) pa_nil)) (pg_name (i := 5) scBehavesAsPrime.nd rfl (Or.inl rfl))
      (pss_cons (ps_if (pt_cmp (pc_eqI (pv 4) (pe_op op_subN (pv 0) pe_int)))
        (pss_one (ps_ret pe_bl))
        pss_nil)
        (pss_one (ps_set (i := 4) scBehavesAsPrime.nd rfl (Or.inl rfl) (pe_op modNN (pe_op mulNN (pv 4) (pv 4)) (pv 0))))))
      (pss_one (ps_ret pe_bl))))), ?_⟩
    have m1' : m < 1152921504606846976 := m1
    refine ⟨_, rfl, _, rfl, _, rfl, (b : Int), b, o, n, rfl, by omega, n1, o1, (Int.natCast_emod b n).symm, ?_⟩
    unfold behaves at q
    refine ⟨_, rfl, _, _, rfl, rfl, _, rfl, way2 (fun h => ?_) (fun h => ?_)⟩
    · have e : pmod b o n = 1 := by omega
      rw [bifT (beqT e)] at q
      exact q
    · have e : pmod b o n ≠ 1 := by omega
      rw [bifF (beqF e)] at q
      refine ⟨_, rfl, _, rfl, by omega, by omega, ?_⟩
      have em : ((m : Nat) : Int).toNat = m := rfl
      rw [em]
      generalize hR : behL n m (pmod b o n) = R at q
      refine for_range (lo := 0) (n := m) (fun i σ H' => ∃ (x : Nat) (x5 : Option V), σ = [some (.int (n : Int)), some (.int (b : Int)), some (.int (m : Int)), some (.int (o : Int)), some (.int (x : Int)), x5] ∧ H' = H ∧ i ≤ m ∧ x < n ∧ behL n (m - i) x = R)
        ⟨pmod b o n, none, rfl, rfl, Nat.zero_le _, pmod_lt n0, hR⟩ (fun i σ H' hi ⟨x, x5, e1, e2, e3, e4, e5⟩ => ?_) (fun σ H' ⟨x, x5, e1, e2, e3, e4, e5⟩ => ?_)
      · subst e1 e2
        obtain ⟨g, hg⟩ : ∃ g, m - i = g + 1 := ⟨m - i - 1, by omega⟩
        rw [hg] at e5
        unfold behL at e5
        refine ⟨_, rfl, _, rfl, n, 1, rfl, rfl, by omega, _, _, rfl, rfl, _, rfl, way2 (fun h => ?_) (fun h => ?_)⟩
        · have ex : x = n - 1 := by omega
          rw [bifT (beqT ex)] at e5
          rw [← e5] at q
          exact q
        · have ex : x ≠ n - 1 := by omega
          rw [bifF (beqF ex)] at e5
          have eg : m - (i + 1) = g := by omega
          refine ⟨_, rfl, _, rfl, x, x, rfl, rfl, .inl (Nat.lt_trans e4 n1), _, rfl, x * x, n, rfl, rfl, by omega, x * x % n, _, rfl, rfl, by omega, Nat.mod_lt _ (by omega), ?_⟩
          rw [eg]
          exact e5
      · subst e1 e2
        rw [Nat.sub_self] at e5
        unfold behL at e5
        rw [← e5] at q
        exact q
def spIsPrime (_ : PySem.W.Frag) : Sp := fun vs H Q _ => ∃ n : Nat, vs = [.int (n : Int)] ∧ n < 2 ^ 60 ∧ ∀ H', Same H H' → Q (.bl (isPrimeM n)) H'
theorem byW_app (n : Nat) : ∀ (xs ys : List Nat), byW n xs = none → byW n (xs ++ ys) = byW n ys
  | [], _, _ => rfl
  | p :: r, ys, h => by
    unfold byW at h
    show byW n (p :: (r ++ ys)) = _
    rw [byW]
    cases e : (n % p).beq 0 with
    | true =>
      rw [e] at h
      cases h
    | false =>
      rw [e] at h
      exact byW_app n r ys h
theorem toL_fst {p : Nat} : ∀ {f n k : Nat}, (toL p f n k).1 ≤ k + f
  | 0, n, k => Nat.le_refl _
  | f + 1, n, k => by
    unfold toL
    cases (n % p).beq 0 with
    | true =>
      have h := toL_fst (p := p) (f := f) (n := n / p) (k := k + 1)
      show (toL p f (n / p) (k + 1)).1 ≤ k + (f + 1)
      omega
    | false => show k ≤ k + (f + 1); omega
theorem okIsPrime (T : Txt K mg fa fd) : FnOk P w K mg base CX0 3 (fa 6) (fd 6) ["n"] (spIsPrime K) := by
  refine T.F_is_prime.ok scIsPrime (fun vs H Q E h => ?_) (fun cdv A outer s H vs Q E hr h => ?_)
  · obtain ⟨n, rfl, n1, q⟩ := h
    rfl
  · obtain ⟨n, rfl, n1, q⟩ := h
    refine ⟨_, (pss_cons (ps_if (pt_cmp (pc_lt (pv 0) pe_int))
      (pss_one (ps_ret pe_bl))
      pss_nil)
      (pss_cons (ps_for PassesOwn.never rfl (piT K (pe_glob (v := .ref (fa 59)) (by rfl) T.g_WITNESSES rfl)) (pg_name (i := 1) scIsPrime.nd rfl (Or.inl rfl))
      (pss_one (ps_if (pt_cmp (pc_eqI (pe_op modNN (pv 0) (pv 1)) pe_int))
        (pss_one (ps_ret (pe_cmp (pc_eqI (pv 0) (pv 1)))))
        pss_nil)))
      (pss_cons (ps_asg (pe_call (sp := spTakenOut K) (okTakenOut T) (hr.mono (by decide)) (by rfl) T.G_taken_out T.F_taken_out.kp T.B_taken_out .nil pass0 (pa_cons (pe_op op_subN (pv 0) pe_int) (pa_cons pe_int pa_nil))) (pgT K 2 (by rfl) (pgs_cons (pg_name (i := 2) scIsPrime.nd rfl (Or.inl rfl)) (pgs_cons (pg_name (i := 3) scIsPrime.nd rfl (Or.inl rfl)) pgs_nil))))
      (pss_cons (ps_for PassesOwn.never rfl (piT K (pe_glob (v := .ref (fa 59)) (by rfl) T.g_WITNESSES rfl)) (pg_name (i := 4) scIsPrime.nd rfl (Or.inl rfl))
      (pss_one (ps_if (pt_not (pt_val (pe_call (sp := spBehavesAsPrime K) (okBehavesAsPrime T) hr (by rfl) T.G__behaves_as_prime T.F__behaves_as_prime.kp T.B__behaves_as_prime .nil pass0 (pa_cons (pv 0) (pa_cons (pv 4) (pa_cons (pv 2) (pa_cons (pv 3) pa_nil)))))))
        (pss_one (ps_ret pe_bl))
        pss_nil)))
      (pss_one (ps_ret pe_bl)))))), ?_⟩
    have n1' : n < 1152921504606846976 := n1
    have n64 : n < 2 ^ 64 := Nat.lt_trans n1 (by decide)
    unfold isPrimeM at q
    refine ⟨_, rfl, _, _, rfl, rfl, _, rfl, way2 (fun h => ?_) (fun h => ?_)⟩
    · have e : n ≤ 1 := by omega
      rw [bifT (bleT e)] at q
      exact q H (Same.refl H)
    · have e : ¬ n ≤ 1 := by omega
      rw [bifF (bleF e)] at q
      have hW := T.S_WITNESSES
      refine ⟨_, rfl, ⟨_, hW H⟩, for_tup (K := K) (xs := (wits.map fun (x : Nat) => V.int (x : Int))) (fun i σ H' => ∃ x1, σ = [some (.int (n : Int)), x1, none, none, none] ∧ H' = H ∧ byW n (wits.take i) = none) ⟨none, rfl, rfl, rfl⟩ (fun i σ H' hi ⟨x1, e1, e2, e3⟩ => hW H') (fun i x σ H' hx ⟨x1, e1, e2, e3⟩ => ?_) (fun σ H' ⟨x1, e1, e2, e3⟩ => ?_)⟩
      · subst e1 e2
        rw [List.getElem?_map] at hx
        cases hn : wits[i]? with
        | none =>
          rw [hn] at hx
          cases hx
        | some p =>
          rw [hn] at hx
          cases hx
          have pw : p ∈ wits := List.mem_of_getElem? hn
          have p0 : 0 < p := (by decide : ∀ x ∈ wits, 0 < x) p pw
          have tk : wits.take (i + 1) = wits.take i ++ [p] := by
            rw [List.take_add_one, hn]
            rfl
          refine ⟨_, rfl, _, rfl, n, p, rfl, rfl, p0, _, _, rfl, rfl, _, rfl, way2 (fun h2 => ?_) (fun h2 => ?_)⟩
          · have e4 : n % p = 0 := by omega
            have e5 : byW n wits = some (n.beq p) := by
              have sp : wits = wits.take i ++ (p :: wits.drop (i + 1)) := by
                have h5 := List.getElem?_eq_some_iff.mp hn
                obtain ⟨h6, h7⟩ := h5
                rw [← h7, ← List.drop_eq_getElem_cons h6, List.take_append_drop]
              rw [sp, byW_app _ _ _ e3, byW, bifT (beqT e4)]
            rw [e5] at q
            refine ⟨_, rfl, _, rfl, _, _, rfl, rfl, ?_⟩
            have e6 : decide ((n : Int) = (p : Int)) = n.beq p := by
              by_cases z : n = p
              · rw [decide_eq_true (by omega), beqT z]
              · rw [decide_eq_false (by omega), beqF z]
            dsimp only
            rw [e6]
            exact q _ (Same.refl _)
          · have e4 : n % p ≠ 0 := by omega
            refine ⟨_, rfl, rfl, ?_⟩
            rw [tk, byW_app _ _ _ e3, byW, bifF (beqF e4)]
            rfl
      · subst e1 e2
        have e5 : byW n wits = none := by
          rw [List.length_map, List.take_length] at e3
          exact e3
        rw [e5] at q
        have z1 : 0 < n - 1 := by omega
        refine ⟨_, rfl, n, 1, rfl, rfl, by omega, n - 1, 2, rfl, z1, by omega, by decide, by decide, fun t nt => ?_⟩
        have od := toL_pos (p := 2) (by decide) (f := 64) (k := 0) z1
        have mn := toL_fst (p := 2) (f := 64) (n := n - 1) (k := 0)
        change 0 < (takenOut (n - 1) 2).2 ∧ (takenOut (n - 1) 2).2 ≤ n - 1 at od
        change (takenOut (n - 1) 2).1 ≤ 0 + 64 at mn
        refine ⟨t, _, rfl, SqT.of upd_same, rfl, _, _, rfl, _, _, rfl, rfl, ?_⟩
        generalize hf : (fun b => behaves n b (takenOut (n - 1) 2).1 (takenOut (n - 1) 2).2) = f at q
        have hf2 : ∀ b, behaves n b (takenOut (n - 1) 2).1 (takenOut (n - 1) 2).2 = f b := fun b => by rw [← hf]
        generalize (takenOut (n - 1) 2).1 = m at hf2 mn ⊢
        generalize (takenOut (n - 1) 2).2 = o at hf2 od ⊢
        have q2 : ∀ H'', Q (.bl (wits.all f)) H'' → True := fun _ _ => trivial
        refine ⟨_, rfl, ⟨_, hW _⟩, for_tup (K := K) (xs := (wits.map fun (x : Nat) => V.int (x : Int))) (fun i σ H2 => ∃ x4, σ = [some (.int (n : Int)), x1, some (.int (m : Int)), some (.int (o : Int)), x4] ∧ Same H' H2 ∧ (wits.take i).all f = true) ⟨none, rfl, same_upd nt, rfl⟩ (fun i σ H2 hi ⟨x4, e1, e2, e3⟩ => hW H2) (fun i x σ H2 hx ⟨x4, e1, e2, e6⟩ => ?_) (fun σ H2 ⟨x4, e1, e2, e6⟩ => ?_)⟩
        · subst e1
          rw [List.getElem?_map] at hx
          cases hn : wits[i]? with
          | none =>
            rw [hn] at hx
            cases hx
          | some b =>
            rw [hn] at hx
            cases hx
            have tk : wits.take (i + 1) = wits.take i ++ [b] := by
              rw [List.take_add_one, hn]
              rfl
            refine ⟨_, rfl, _, rfl, _, rfl, _, rfl, n, b, m, o, rfl, by omega, n64, Nat.lt_of_le_of_lt mn (by decide), by omega, _, rfl, ?_⟩
            rw [hf2]
            cases hb : f b with
            | false =>
              refine iteT ?_
              have e7 : wits.all f = false := by
                rw [Bool.eq_false_iff]
                intro z
                have z2 := List.all_eq_true.mp z b (List.mem_of_getElem? hn)
                rw [hb] at z2
                cases z2
              rw [e7] at q
              exact q H2 e2
            | true =>
              refine iteF ⟨_, rfl, e2, ?_⟩
              rw [tk, List.all_append, e6, List.all_cons, hb]
              rfl
        · subst e1
          rw [List.length_map, List.take_length] at e6
          rw [e6] at q
          exact q H2 e2
def spLeastMeasure (_ : PySem.W.Frag) : Sp := fun vs H Q _ => ∃ n s q : Nat, vs = [.int (n : Int), .int (s : Int)] ∧ n < 2 ^ 60 ∧ s < 2 ^ 60 ∧ leastM n s = some q ∧ Q (.int (q : Int)) H
theorem PIp_of {X : Cx} {op : Operator} {r : R2} (h : OpR X (inplaceOp op) r) : PIp X op r := h
theorem okLeastMeasure (T : Txt K mg fa fd) : FnOk P w K mg base CX0 1 (fa 9) (fd 9) ["n", "start"] (spLeastMeasure K) := by
  refine T.F__least_measure.ok scLeastMeasure (fun vs H Q E h => ?_) (fun cdv A outer s H vs Q E hr h => ?_)
  · obtain ⟨n, s, q, rfl, n1, s1, hm, Qd⟩ := h
    rfl
  · obtain ⟨n, s, q, rfl, n1, s1, hm, Qd⟩ := h
    refine ⟨_, (pss_cons (ps_if (pt_cmp (pc_eqI (pe_op modNN (pv 0) pe_int) pe_int))
      (pss_one (ps_ret pe_int))
      pss_nil)
      (pss_cons (ps_set (i := 2) scLeastMeasure.nd rfl (Or.inl rfl) (pe_callB (call_max2 rfl) (by rfl) T.m_max (by decide +kernel) (pa_cons pe_int (pa_cons (pv 1) pa_nil))))
      (pss_cons (ps_while PassesOwn.never (pt_cmp (pc_neI (pe_op modNN (pv 0) (pv 2)) pe_int))
      (pss_one (ps_aug (i := 2) scLeastMeasure.nd rfl (Or.inl rfl) pe_int (PIp_of iop_addN))))
      (pss_one (ps_ret (pv 2)))))), ?_⟩
    unfold leastM at hm
    refine ⟨_, rfl, n, 2, rfl, rfl, by decide, _, _, rfl, rfl, _, rfl, way2 (fun h => ?_) (fun h => ?_)⟩
    · have e : n % 2 = 0 := by omega
      rw [bifT (beqT e)] at hm
      cases hm
      exact Qd
    · have e : n % 2 ≠ 0 := by omega
      rw [bifF (beqF e)] at hm
      refine ⟨_, rfl, _, _, rfl, ?_⟩
      have e2 : (if (s : Int) > 3 then (s : Int) else 3) = ((bif s.ble 3 then 3 else s : Nat) : Int) := by
        by_cases z : s ≤ 3
        · rw [bifT (bleT z), if_neg (by omega)]
          rfl
        · rw [bifF (bleF z), if_pos (by omega)]
      dsimp only
      rw [e2]
      have st : (bif s.ble 3 then 3 else s) < 2 ^ 60 ∧ 0 < (bif s.ble 3 then 3 else s) := by
        by_cases z : s ≤ 3
        · rw [bifT (bleT z)]
          exact ⟨by decide, by decide⟩
        · rw [bifF (bleF z)]
          exact ⟨s1, by omega⟩
      generalize (bif s.ble 3 then 3 else s) = x0 at hm st ⊢
      have n1' : n < 1152921504606846976 := n1
      have st1 : x0 < 1152921504606846976 := st.1
      refine ⟨fun t σ H' => ∃ (f x : Nat), σ = [some (.int (n : Int)), some (.int (s : Int)), some (.int (x : Int))] ∧ t = f ∧ H' = H ∧ 0 < x ∧ leastL n f x = some q, ⟨_, n, x0, rfl, rfl, rfl, st.2, hm⟩, ?_⟩
      rintro t σ H' ⟨f, x, rfl, rfl, rfl, x2, hr⟩
      refine ⟨_, rfl, _, rfl, n, x, rfl, rfl, x2, _, _, rfl, rfl, _, rfl, ?_⟩
      obtain ⟨g, rfl⟩ : ∃ g, t = g + 1 := by
        cases t with
        | zero => cases hr
        | succ g => exact ⟨g, rfl⟩
      unfold leastL at hr
      refine wayN2 (fun h => ?_) (fun h => ?_)
      · have k0 : n % x ≠ 0 := by omega
        rw [bifF (beqF k0)] at hr
        refine ⟨fun σ' H2 => σ' = [some (.int (n : Int)), some (.int (s : Int)), some (.int ((x + 2 : Nat) : Int))] ∧ H2 = H', ?_, ?_⟩
        · rintro σ' H2 ⟨e1, e2⟩
          exact ⟨g, by omega, g, x + 2, e1, rfl, e2, by omega, hr⟩
        · exact ⟨_, rfl, x, 2, rfl, rfl, rfl, rfl⟩
      · have k0 : n % x = 0 := by omega
        rw [bifT (beqT k0)] at hr
        cases hr
        exact ⟨_, rfl, Qd⟩
def spPrimeParts (_ : PySem.W.Frag) : Sp := fun vs H Q _ => ∃ (n : Nat) (l : List (Nat × Nat)), vs = [.int (n : Int)] ∧ 0 < n ∧ n < 2 ^ 59 ∧ ppM n = some l ∧
  ∀ H' r as, Same H H' → H r = none → H' r = some (.lst (as.map V.ref)) → Prs H' as (nats l) → as.length ≤ 100 → Q (.ref r) H'
theorem leastL_dvd {n q : Nat} : ∀ {f x : Nat}, 0 < x → leastL n f x = some q → n % q = 0 ∧ x ≤ q
  | 0, x, _, h => by cases h
  | f + 1, x, h0, h => by
    unfold leastL at h
    by_cases e : n % x = 0
    · rw [bifT (beqT e)] at h
      cases h
      exact ⟨e, Nat.le_refl _⟩
    · rw [bifF (beqF e)] at h
      obtain ⟨a, b⟩ := leastL_dvd (by omega) h
      exact ⟨a, by omega⟩
theorem leastM_dvd {n s q : Nat} (h : leastM n s = some q) : n % q = 0 ∧ 2 ≤ q := by
  unfold leastM at h
  by_cases e : n % 2 = 0
  · rw [bifT (beqT e)] at h
    cases h
    exact ⟨e, Nat.le_refl _⟩
  · rw [bifF (beqF e)] at h
    have z : 3 ≤ (bif s.ble 3 then 3 else s) := by
      by_cases y : s ≤ 3
      · rw [bifT (bleT y)]
        exact Nat.le_refl _
      · rw [bifF (bleF y)]
        omega
    obtain ⟨a, b⟩ := leastL_dvd (by omega) h
    exact ⟨a, by omega⟩
theorem okPrimeParts (T : Txt K mg fa fd) : FnOk P w K mg base CX0 4 (fa 8) (fd 8) ["n"] (spPrimeParts K) := by
  refine T.F_prime_parts.ok scPrimeParts (fun vs H Q E h => ?_) (fun cdv A outer s H vs Q E hr h => ?_)
  · obtain ⟨n, l, rfl, n0, n1, hm, q⟩ := h
    rfl
  · obtain ⟨n, l, rfl, n0, n1, hm, q⟩ := h
    refine ⟨_, (pss_cons (ps_set (i := 1) scPrimeParts.nd rfl (Or.inl rfl) (pe_lst pa_nil))
      (pss_cons (ps_set (i := 2) scPrimeParts.nd rfl (Or.inl rfl) (pv 0))
      (pss_cons (ps_set (i := 3) scPrimeParts.nd rfl (Or.inl rfl) pe_int)
      (pss_cons (ps_while PassesOwn.never (pt_cmp (pc_gt (pv 2) pe_int))
      (C8.pss_cut (ps_set (i := 3) scPrimeParts.nd rfl (Or.inl rfl) (pe_ifExp (pt_val (pe_call (sp := spIsPrime K) (okIsPrime T) hr (by rfl) T.G_is_prime T.F_is_prime.kp T.B_is_prime .nil pass0 (pa_cons (pv 2) pa_nil))) (pv 2) (pe_call (sp := spLeastMeasure K) (okLeastMeasure T) (hr.mono (by decide)) (by rfl) T.G__least_measure T.F__least_measure.kp T.B__least_measure .nil pass0 (pa_cons (pv 2) (pa_cons (pv 3) pa_nil)))))
        (pss_cons (ps_asg (pe_call (sp := spTakenOut K) (okTakenOut T) (hr.mono (by decide)) (by rfl) T.G_taken_out T.F_taken_out.kp T.B_taken_out .nil pass0 (pa_cons (pv 2) (pa_cons (pv 3) pa_nil))) (pgT K 2 (by rfl) (pgs_cons (pg_name (i := 4) scPrimeParts.nd rfl (Or.inl rfl)) (pgs_cons (pg_name (i := 2) scPrimeParts.nd rfl (Or.inl rfl)) pgs_nil))))
        (pss_one (ps_expr (pe_bm PySem.F.plainAttrs_list PySem.F.slot_list_append PySem.F.type_list_append mt_append (pv 1) (pa_cons (pe_tup (pa_cons (pv 3) (pa_cons (pv 4) pa_nil))) pa_nil)))))))
      (pss_one (ps_ret (pv 1))))))), ?_⟩
    refine ⟨Nat.zero_le _, fun r nr => ?_⟩
    have n1' : n < 576460752303423488 := n1
    refine ⟨_, rfl, fun t σ H' => ∃ (f x p : Nat) (x4 : Option V) (as : List Addr) (done rest : List (Nat × Nat)), σ = [some (.int (n : Int)), some (.ref r), some (.int (x : Int)), some (.int (p : Int)), x4] ∧ t = f ∧ Same H H' ∧ H' r = some (.lst (as.map V.ref)) ∧ Prs H' as (nats done) ∧ 0 < x ∧ x ≤ n ∧ 0 < p ∧ p ≤ n + 2 ∧ done.length + f = 70 ∧ ppL f x p = some rest ∧ l = done ++ rest,
      ⟨70, 70, n, 2, none, [], [], l, rfl, rfl, same_upd nr, upd_same, .nil, n0, Nat.le_refl _, by omega, by omega, rfl, hm, rfl⟩, ?_⟩
    rintro t σ H' ⟨f, x, p, x4, as, done, rest, rfl, rfl, hs, hr, hp, x0, x1, p0, p1, hl, hpp, hll⟩
    obtain ⟨g, rfl⟩ : ∃ g, t = g + 1 := by
      cases t with
      | zero => cases hpp
      | succ g => exact ⟨g, rfl⟩
    unfold ppL at hpp
    refine ⟨_, rfl, _, _, rfl, rfl, _, rfl, way2 (fun h => ?_) (fun h => ?_)⟩
    · have e : ¬ x ≤ 1 := by omega
      rw [bifF (bleF e)] at hpp
      refine ⟨fun σ' H2 => ∃ (f x p : Nat) (x4 : Option V) (as : List Addr) (done rest : List (Nat × Nat)), σ' = [some (.int (n : Int)), some (.ref r), some (.int (x : Int)), some (.int (p : Int)), x4] ∧ f < g + 1 ∧ Same H H2 ∧ H2 r = some (.lst (as.map V.ref)) ∧ Prs H2 as (nats done) ∧ 0 < x ∧ x ≤ n ∧ 0 < p ∧ p ≤ n + 2 ∧ done.length + f = 70 ∧ ppL f x p = some rest ∧ l = done ++ rest, ?_, ?_⟩
      · rintro σ' H2 ⟨f, x, p, x4, as, done, rest, e1, e2, e3⟩
        exact ⟨f, e2, f, x, p, x4, as, done, rest, e1, rfl, e3⟩
      · cases hq : (bif isPrimeM x then some x else leastM x p) with
        | none =>
          rw [hq] at hpp
          cases hpp
        | some q2 =>
          rw [hq] at hpp
          refine ⟨fun σ' H2 => σ' = [some (.int (n : Int)), some (.ref r), some (.int (x : Int)), some (.int (q2 : Int)), x4] ∧ Same H' H2, ?_, ?_⟩
          · refine ⟨_, rfl, x, rfl, by show x < 1152921504606846976; omega, fun H3 s3 => ⟨_, rfl, ?_⟩⟩
            cases hi : isPrimeM x with
            | true =>
              rw [hi] at hq
              cases hq
              exact iteT ⟨_, rfl, rfl, s3⟩
            | false =>
              rw [hi] at hq
              exact iteF ⟨_, rfl, _, rfl, x, p, q2, rfl, by show x < 1152921504606846976; omega, by show p < 1152921504606846976; omega, hq, rfl, s3⟩
          · rintro σ' H2 ⟨rfl, s2⟩
            have q0 : x % q2 = 0 ∧ 2 ≤ q2 := by
              cases hi : isPrimeM x with
              | true =>
                rw [hi] at hq
                cases hq
                exact ⟨Nat.mod_self x, by omega⟩
              | false =>
                rw [hi] at hq
                exact leastM_dvd hq
            have q1 : q2 ≤ x := Nat.le_of_dvd x0 (Nat.dvd_of_mod_eq_zero q0.1)
            have x64 : x < 2 ^ 64 := by show x < 18446744073709551616; omega
            have q64 : q2 < 2 ^ 64 := Nat.lt_of_le_of_lt q1 x64
            refine ⟨_, rfl, _, rfl, x, q2, rfl, x0, x64, q0.2, q64, fun u nu => ?_⟩
            have su := same_upd (o := .tup [.int ((takenOut x q2).1 : Int), .int ((takenOut x q2).2 : Int)]) nu
            refine ⟨u, _, rfl, SqT.of upd_same, rfl, _, _, rfl, _, _, rfl, rfl, ?_⟩
            have od := toL_pos (p := q2) q0.2 (f := 64) (k := 0) x0
            change 0 < (takenOut x q2).2 ∧ (takenOut x q2).2 ≤ x at od
            have hr2 := su _ _ (s2 _ _ hr)
            refine ⟨_, rfl, .inl ⟨rfl, _, SqL.of hr2⟩, _, rfl, _, rfl, by show 2 ≤ sizeLine; decide, fun w nw => ?_⟩
            have sw := same_upd (o := .tup [.int (q2 : Int), .int ((takenOut x q2).1 : Int)]) nw
            have hr3 := sw _ _ hr2
            refine ⟨_, _, _, rfl, rfl, hr3, ?_, ?_⟩
            · rw [List.length_map, hp.len]
              unfold nats
              rw [List.length_map]
              exact small1000 (by omega)
            cases hl2 : ppL g (takenOut x q2).2 q2 with
            | none =>
              simp only [hl2] at hpp
              cases hpp
            | some l2 =>
              simp only [hl2] at hpp
              cases hpp
              have sall := (s2.trans su).trans sw
              refine ⟨g, (takenOut x q2).2, q2, _, as ++ [w], done ++ [(q2, (takenOut x q2).1)], l2, rfl, by omega, same_mut (hs.trans sall) nr, ?_, ?_, od.1, by omega, by omega, by omega, ?_, hl2, ?_⟩
              · rw [upd_same, List.map_append]
                rfl
              · have e7 : nats (done ++ [(q2, (takenOut x q2).1)]) = nats done ++ [((q2 : Int), ((takenOut x q2).1 : Int))] := by
                  unfold nats
                  rw [List.map_append]
                  rfl
                rw [e7]
                refine ((hp.same sall).mono fun b xs e2 => ?_).snoc ?_
                · rw [upd_ne (ne_of e2 hr3 (by intro z; cases z))]
                  exact e2
                · rw [upd_ne (ne_of upd_same hr3 (by intro z; cases z))]
                  exact upd_same
              · rw [List.length_append, List.length_cons, List.length_nil]
                omega
              · rw [hll, List.append_assoc]
                rfl
    · have e : x ≤ 1 := by omega
      rw [bifT (bleT e)] at hpp
      cases hpp
      rw [List.append_nil] at hll
      subst hll
      refine ⟨_, rfl, q H' r as hs nr hr hp ?_⟩
      rw [hp.len]
      unfold nats
      rw [List.length_map]
      omega
def spDiscriminant (K : PySem.W.Frag) : Sp := fun vs H Q _ => ∃ (aform : Addr) (a b c : Int) (N : Nat), vs = [.ref aform] ∧ SqT K H aform [.int a, .int b, .int c] ∧ Bd N a ∧ Bd N b ∧ Bd N c ∧ N ≤ 400000 ∧ (Q (.int (b * b - 4 * a * c)) H)
theorem uDiscriminant {K : PySem.W.Frag} {H : Hp} {Q : VK} {E : XK} {vs : List V} {aform : Addr} {a b c : Int} {n0 n1 n2 : Nat} (hev : vs = [.ref aform]) (s0 : SqT K H aform [.int a, .int b, .int c]) (b0 : Bd n0 a) (b1 : Bd n1 b) (b2 : Bd n2 c) (hll : (n0 + n1 + n2 ≤ 400000) = True) (kk : Q (.int (b * b - 4 * a * c)) H) : spDiscriminant K vs H Q E :=
  have hll := of_eq_true hll
  ⟨aform, a, b, c, n0 + n1 + n2, hev, s0, b0.mono (by omega), b1.mono (by omega), b2.mono (by omega), hll, kk⟩
theorem okDiscriminant (T : Txt K mg fa fd) : FnOk P w K mg base CX0 1 (fa 10) (fd 10) ["form"] (spDiscriminant K) := by
  refine T.F_discriminant.ok scDiscriminant (fun vs H Q E h => ?_) (fun cdv A outer s H vs Q E hr h => ?_)
  · obtain ⟨aform, a, b, c, N, rfl, h_aform, b_a, b_b, b_c, hN, kk⟩ := h
    rfl
  · obtain ⟨aform, a, b, c, N, rfl, h_aform, b_a, b_b, b_c, hN, kk⟩ := h
    refine ⟨_, (pss_cons (ps_asg (pv 0) (pgT K 3 (by rfl) (pgs_cons (pg_name (i := 1) scDiscriminant.nd rfl (Or.inl rfl)) (pgs_cons (pg_name (i := 2) scDiscriminant.nd rfl (Or.inl rfl)) (pgs_cons (pg_name (i := 3) scDiscriminant.nd rfl (Or.inl rfl)) pgs_nil)))))
      (pss_one (ps_ret (pe_op op_sub (pe_op op_mulW (pv 2) (pv 2)) (pe_op op_mulW (pe_op op_mulW pe_int (pv 1)) (pv 3)))))), ?_⟩
    clean_wf
    all_goals first | omega | exact kk | (refine kk _ _ ?_ (by assumption); (repeat' (first | with_reducible exact Same.refl _ | with_reducible assumption | ((with_reducible apply sameB); with_reducible assumption))))
def spContent (K : PySem.W.Frag) : Sp := fun vs H Q _ => ∃ (af : Addr) (a b c : Int), vs = [.ref af] ∧ SqT K H af [.int a, .int b, .int c] ∧ Q (.int (gL [a, b, c])) H
theorem uContent {K : PySem.W.Frag} {H : Hp} {Q : VK} {E : XK} {vs : List V} {af : Addr} {a b c : Int} (e : vs = [.ref af]) (hs : SqT K H af [.int a, .int b, .int c]) (kk : Q (.int (gL [a, b, c])) H) : spContent K vs H Q E := ⟨af, a, b, c, e, hs, kk⟩
theorem okContent (T : Txt K mg fa fd) : FnOk P w K mg base CX0 2 (fa 11) (fd 11) ["form"] (spContent K) := by
  refine T.F_content.ok scContent (fun vs H Q E h => ?_) (fun cdv A outer s H vs Q E hr h => ?_)
  · obtain ⟨af, a, b, c, rfl, hs, kk⟩ := h
    rfl
  · obtain ⟨af, a, b, c, rfl, hs, kk⟩ := h
    refine ⟨_, (pss_one (ps_ret (pe_call (sp := spMeasure K) (okMeasure T) hr (by rfl) T.G_measure T.F_measure.kp T.B_measure .nil pass0 (pa_cons (pv 0) pa_nil)))), ?_⟩
    clean_wf
    exact ⟨af, [a, b, c], rfl, .inr hs, kk⟩
def spWorth (K : PySem.W.Frag) : Sp := fun vs H Q _ => ∃ (aform apoint : Addr) (a b c x y : Int) (N : Nat), vs = [.ref aform, .ref apoint] ∧ SqT K H aform [.int a, .int b, .int c] ∧ SqT K H apoint [.int x, .int y] ∧ Bd N a ∧ Bd N b ∧ Bd N c ∧ Bd N x ∧ Bd N y ∧ N ≤ 300000 ∧ (Q (.int (a * x * x + b * x * y + c * y * y)) H)
theorem uWorth {K : PySem.W.Frag} {H : Hp} {Q : VK} {E : XK} {vs : List V} {aform apoint : Addr} {a b c x y : Int} {n0 n1 n2 n3 n4 : Nat} (hev : vs = [.ref aform, .ref apoint]) (s0 : SqT K H aform [.int a, .int b, .int c]) (s1 : SqT K H apoint [.int x, .int y]) (b0 : Bd n0 a) (b1 : Bd n1 b) (b2 : Bd n2 c) (b3 : Bd n3 x) (b4 : Bd n4 y) (hll : (n0 + n1 + n2 + n3 + n4 ≤ 300000) = True) (kk : Q (.int (a * x * x + b * x * y + c * y * y)) H) : spWorth K vs H Q E :=
  have hll := of_eq_true hll
  ⟨aform, apoint, a, b, c, x, y, n0 + n1 + n2 + n3 + n4, hev, s0, s1, b0.mono (by omega), b1.mono (by omega), b2.mono (by omega), b3.mono (by omega), b4.mono (by omega), hll, kk⟩
theorem okWorth (T : Txt K mg fa fd) : FnOk P w K mg base CX0 1 (fa 12) (fd 12) ["form", "point"] (spWorth K) := by
  refine T.F_worth.ok scWorth (fun vs H Q E h => ?_) (fun cdv A outer s H vs Q E hr h => ?_)
  · obtain ⟨aform, apoint, a, b, c, x, y, N, rfl, h_aform, h_apoint, b_a, b_b, b_c, b_x, b_y, hN, kk⟩ := h
    rfl
  · obtain ⟨aform, apoint, a, b, c, x, y, N, rfl, h_aform, h_apoint, b_a, b_b, b_c, b_x, b_y, hN, kk⟩ := h
    refine ⟨_, (pss_cons (ps_asg (pv 0) (pgT K 3 (by rfl) (pgs_cons (pg_name (i := 2) scWorth.nd rfl (Or.inl rfl)) (pgs_cons (pg_name (i := 3) scWorth.nd rfl (Or.inl rfl)) (pgs_cons (pg_name (i := 4) scWorth.nd rfl (Or.inl rfl)) pgs_nil)))))
      (pss_cons (ps_asg (pv 1) (pgT K 2 (by rfl) (pgs_cons (pg_name (i := 5) scWorth.nd rfl (Or.inl rfl)) (pgs_cons (pg_name (i := 6) scWorth.nd rfl (Or.inl rfl)) pgs_nil))))
      (pss_one (ps_ret (pe_op op_add (pe_op op_add (pe_op op_mulW (pe_op op_mulW (pv 2) (pv 5)) (pv 5)) (pe_op op_mulW (pe_op op_mulW (pv 3) (pv 5)) (pv 6))) (pe_op op_mulW (pe_op op_mulW (pv 4) (pv 6)) (pv 6))))))), ?_⟩
    clean_wf
    all_goals first | omega | exact kk | (refine kk _ _ ?_ (by assumption); (repeat' (first | with_reducible exact Same.refl _ | with_reducible assumption | ((with_reducible apply sameB); with_reducible assumption))))
def spAct (K : PySem.W.Frag) : Sp := fun vs H Q _ => ∃ (aform am : Addr) (a b c p q r s : Int) (N : Nat), vs = [.ref aform, .ref am] ∧ SqT K H aform [.int a, .int b, .int c] ∧ SqT K H am [.int p, .int q, .int r, .int s] ∧ Bd N a ∧ Bd N b ∧ Bd N c ∧ Bd N p ∧ Bd N q ∧ Bd N r ∧ Bd N s ∧ N ≤ 59000 ∧ (R.Nw H [.int (a * p * p + b * p * r + c * r * r), .int (2 * a * p * q + b * (p * s + q * r) + 2 * c * r * s), .int (a * q * q + b * q * s + c * s * s)] Q)
theorem uAct {K : PySem.W.Frag} {H : Hp} {Q : VK} {E : XK} {vs : List V} {aform am : Addr} {a b c p q r s : Int} {n0 n1 n2 n3 n4 n5 n6 : Nat} (hev : vs = [.ref aform, .ref am]) (s0 : SqT K H aform [.int a, .int b, .int c]) (s1 : SqT K H am [.int p, .int q, .int r, .int s]) (b0 : Bd n0 a) (b1 : Bd n1 b) (b2 : Bd n2 c) (b3 : Bd n3 p) (b4 : Bd n4 q) (b5 : Bd n5 r) (b6 : Bd n6 s) (hll : (n0 + n1 + n2 + n3 + n4 + n5 + n6 ≤ 59000) = True) (kk : R.Nw H [.int (a * p * p + b * p * r + c * r * r), .int (2 * a * p * q + b * (p * s + q * r) + 2 * c * r * s), .int (a * q * q + b * q * s + c * s * s)] Q) : spAct K vs H Q E :=
  have hll := of_eq_true hll
  ⟨aform, am, a, b, c, p, q, r, s, n0 + n1 + n2 + n3 + n4 + n5 + n6, hev, s0, s1, b0.mono (by omega), b1.mono (by omega), b2.mono (by omega), b3.mono (by omega), b4.mono (by omega), b5.mono (by omega), b6.mono (by omega), hll, kk⟩
theorem okAct (T : Txt K mg fa fd) : FnOk P w K mg base CX0 2 (fa 13) (fd 13) ["form", "m"] (spAct K) := by
  refine T.F_act.ok scAct (fun vs H Q E h => ?_) (fun cdv A outer s H vs Q E hr h => ?_)
  · obtain ⟨aform, am, a, b, c, p, q, r, s, N, rfl, h_aform, h_am, b_a, b_b, b_c, b_p, b_q, b_r, b_s, hN, kk⟩ := h
    rfl
  · obtain ⟨aform, am, a, b, c, p, q, r, s, N, rfl, h_aform, h_am, b_a, b_b, b_c, b_p, b_q, b_r, b_s, hN, kk⟩ := h
    refine ⟨_, (pss_cons (ps_asg (pv 0) (pgT K 3 (by rfl) (pgs_cons (pg_name (i := 2) scAct.nd rfl (Or.inl rfl)) (pgs_cons (pg_name (i := 3) scAct.nd rfl (Or.inl rfl)) (pgs_cons (pg_name (i := 4) scAct.nd rfl (Or.inl rfl)) pgs_nil)))))
      (pss_cons (ps_asg (pv 1) (pgT K 4 (by rfl) (pgs_cons (pg_name (i := 5) scAct.nd rfl (Or.inl rfl)) (pgs_cons (pg_name (i := 6) scAct.nd rfl (Or.inl rfl)) (pgs_cons (pg_name (i := 7) scAct.nd rfl (Or.inl rfl)) (pgs_cons (pg_name (i := 8) scAct.nd rfl (Or.inl rfl)) pgs_nil))))))
      (pss_cons (ps_set (i := 9) scAct.nd rfl (Or.inl rfl) (pe_op op_add (pe_op op_add (pe_op op_mulW (pe_op op_mulW (pe_op op_mulW pe_int (pv 2)) (pv 5)) (pv 6)) (pe_op op_mulW (pv 3) (pe_op op_add (pe_op op_mulW (pv 5) (pv 8)) (pe_op op_mulW (pv 6) (pv 7))))) (pe_op op_mulW (pe_op op_mulW (pe_op op_mulW pe_int (pv 4)) (pv 7)) (pv 8))))
      (pss_one (ps_ret (pe_tup (pa_cons (pe_call (sp := spWorth K) (okWorth T) hr (by rfl) T.G_worth T.F_worth.kp T.B_worth .nil pass0 (pa_cons (pv 0) (pa_cons (pe_tup (pa_cons (pv 5) (pa_cons (pv 7) pa_nil))) pa_nil))) (pa_cons (pv 9) (pa_cons (pe_call (sp := spWorth K) (okWorth T) hr (by rfl) T.G_worth T.F_worth.kp T.B_worth .nil pass0 (pa_cons (pv 0) (pa_cons (pe_tup (pa_cons (pv 6) (pa_cons (pv 8) pa_nil))) pa_nil))) pa_nil))))))))), ?_⟩
    clean_wf
    all_goals first | omega | exact kk | (refine kk _ _ ?_ (by assumption); (repeat' (first | with_reducible exact Same.refl _ | with_reducible assumption | ((with_reducible apply sameB); with_reducible assumption))))
def spScaled (K : PySem.W.Frag) : Sp := fun vs H Q _ => ∃ (aform : Addr) (a b c number : Int) (N : Nat), vs = [.ref aform, .int number] ∧ SqT K H aform [.int a, .int b, .int c] ∧ Bd N a ∧ Bd N b ∧ Bd N c ∧ Bd N number ∧ N ≤ 400000 ∧ (R.Nw H [.int (a * number), .int (b * number), .int (c * number)] Q)
theorem uScaled {K : PySem.W.Frag} {H : Hp} {Q : VK} {E : XK} {vs : List V} {aform : Addr} {a b c number : Int} {n0 n1 n2 n3 : Nat} (hev : vs = [.ref aform, .int number]) (s0 : SqT K H aform [.int a, .int b, .int c]) (b0 : Bd n0 a) (b1 : Bd n1 b) (b2 : Bd n2 c) (b3 : Bd n3 number) (hll : (n0 + n1 + n2 + n3 ≤ 400000) = True) (kk : R.Nw H [.int (a * number), .int (b * number), .int (c * number)] Q) : spScaled K vs H Q E :=
  have hll := of_eq_true hll
  ⟨aform, a, b, c, number, n0 + n1 + n2 + n3, hev, s0, b0.mono (by omega), b1.mono (by omega), b2.mono (by omega), b3.mono (by omega), hll, kk⟩
theorem okScaled (T : Txt K mg fa fd) : FnOk P w K mg base CX0 1 (fa 14) (fd 14) ["form", "number"] (spScaled K) := by
  refine T.F_scaled.ok scScaled (fun vs H Q E h => ?_) (fun cdv A outer s H vs Q E hr h => ?_)
  · obtain ⟨aform, a, b, c, number, N, rfl, h_aform, b_a, b_b, b_c, b_number, hN, kk⟩ := h
    rfl
  · obtain ⟨aform, a, b, c, number, N, rfl, h_aform, b_a, b_b, b_c, b_number, hN, kk⟩ := h
    refine ⟨_, (pss_cons (ps_asg (pv 0) (pgT K 3 (by rfl) (pgs_cons (pg_name (i := 2) scScaled.nd rfl (Or.inl rfl)) (pgs_cons (pg_name (i := 3) scScaled.nd rfl (Or.inl rfl)) (pgs_cons (pg_name (i := 4) scScaled.nd rfl (Or.inl rfl)) pgs_nil)))))
      (pss_one (ps_ret (pe_tup (pa_cons (pe_op op_mulW (pv 2) (pv 1)) (pa_cons (pe_op op_mulW (pv 3) (pv 1)) (pa_cons (pe_op op_mulW (pv 4) (pv 1)) pa_nil))))))), ?_⟩
    clean_wf
    all_goals first | omega | exact kk | (refine kk _ _ ?_ (by assumption); (repeat' (first | with_reducible exact Same.refl _ | with_reducible assumption | ((with_reducible apply sameB); with_reducible assumption))))
def spKind (K : PySem.W.Frag) : Sp := fun vs H Q _ => ∃ (af : Addr) (a b c : Int), vs = [.ref af] ∧ SqT K H af [.int a, .int b, .int c] ∧ Bd 3000 a ∧ Bd 3000 b ∧ Bd 3000 c ∧ Q (.str (kindS (dsc a b c))) H
theorem uKind {K : PySem.W.Frag} {H : Hp} {Q : VK} {E : XK} {vs : List V} {af : Addr} {a b c : Int} (hev : vs = [.ref af]) (hs : SqT K H af [.int a, .int b, .int c]) (b1 : Bd 3000 a) (b2 : Bd 3000 b) (b3 : Bd 3000 c) (kk : Q (.str (kindS (dsc a b c))) H) : spKind K vs H Q E := ⟨af, a, b, c, hev, hs, b1, b2, b3, kk⟩
theorem kindS_lt {d : Int} (h : d < 0) : kindS d = "definite" := by unfold kindS; rw [if_pos h]
theorem kindS_eq {d : Int} (h : d = 0) : kindS d = "flat" := by unfold kindS; rw [if_neg (by omega), if_pos h]
theorem kindS_sq {d : Int} (h : ¬ d < 0) (h2 : ¬ d = 0) (h3 : 0 ≤ d ∧ rootI d * rootI d = d) : kindS d = "split" := by unfold kindS; rw [if_neg h, if_neg h2, if_pos h3.2]
theorem kindS_ns {d : Int} (h : ¬ d < 0) (h2 : ¬ d = 0) (h3 : ¬ (0 ≤ d ∧ rootI d * rootI d = d)) : kindS d = "indefinite" := by unfold kindS; rw [if_neg h, if_neg h2, if_neg (fun k => h3 ⟨by omega, k⟩)]
theorem okKind (T : Txt K mg fa fd) : FnOk P w K mg base CX0 3 (fa 15) (fd 15) ["form"] (spKind K) := by
  refine T.F_kind.ok scKind (fun vs H Q E h => ?_) (fun cdv A outer s H vs Q E hr h => ?_)
  · obtain ⟨af, a, b, c, rfl, hs, b1, b2, b3, kk⟩ := h
    rfl
  · obtain ⟨af, a, b, c, rfl, hs, b1, b2, b3, kk⟩ := h
    refine ⟨_, (pss_cons (ps_set (i := 1) scKind.nd rfl (Or.inl rfl) (pe_call (sp := spDiscriminant K) (okDiscriminant T) (hr.mono (by decide)) (by rfl) T.G_discriminant T.F_discriminant.kp T.B_discriminant .nil pass0 (pa_cons (pv 0) pa_nil)))
      (pss_cons (ps_if (pt_cmp (pc_lt (pv 1) pe_int))
      (pss_one (ps_ret pe_str))
      pss_nil)
      (pss_cons (ps_if (pt_cmp (pc_eqI (pv 1) pe_int))
      (pss_one (ps_ret pe_str))
      pss_nil)
      (pss_one (ps_ret (pe_ifExp (pt_val (pe_call (sp := spIsSquare K) (okIsSquare T) hr (by rfl) T.G_is_square T.F_is_square.kp T.B_is_square .nil pass0 (pa_cons (pv 1) pa_nil))) pe_str pe_str)))))), ?_⟩
    have bd : Bd 6010 (dsc a b c) := by unfold dsc; apply bdm; clean_wf
    have ed : b * b - 4 * a * c = dsc a b c := rfl
    clean_wf
    rw [ed]
    generalize dsc a b c = d at *
    refine way2 (fun z => ?_) (fun z => ?_)
    · rw [kindS_lt z] at kk
      clean_wf
    clean_wf
    refine way2 (fun z2 => ?_) (fun z2 => ?_)
    · rw [kindS_eq z2] at kk
      clean_wf
    clean_wf
    refine way2 (fun z3 => ?_) (fun z3 => ?_)
    · rw [kindS_sq z z2 z3] at kk
      clean_wf
    · rw [kindS_ns z z2 z3] at kk
      clean_wf
def spPointApart (K : PySem.W.Frag) : Sp := fun vs H Q _ => ∃ (af : Addr) (a b c z : Int) (l : List (Nat × Nat)), vs = [.ref af, .int z] ∧ SqT K H af [.int a, .int b, .int c] ∧ z ≠ 0 ∧ z.natAbs < 100000 ∧ ppM z.natAbs = some l ∧ (∀ x ∈ l, 1 ≤ x.1 ∧ x.1 < 1000) ∧ Bd 60 a ∧ Bd 60 c ∧
  ∀ H' t, Same H H' → H' t = some (.tup [.int (ptF a c (l.map (·.1))).1, .int (ptF a c (l.map (·.1))).2]) → Q (.ref t) H'
theorem okPointApart (T : Txt K mg fa fd) : FnOk P w K mg base CX0 5 (fa 16) (fd 16) ["form", "number"] (spPointApart K) := by
  refine T.F_point_apart.ok scPointApart (fun vs H Q E h => ?_) (fun cdv A outer s H vs Q E hr h => ?_)
  · obtain ⟨af, a, b, c, z, l, rfl, hs, z0, z1, hl, hp, ba, bc, kk⟩ := h
    rfl
  · obtain ⟨af, a, b, c, z, l, rfl, hs, z0, z1, hl, hp, ba, bc, kk⟩ := h
    refine ⟨_, (pss_cons (ps_asg (pv 0) (pgT K 3 (by rfl) (pgs_cons (pg_name (i := 2) scPointApart.nd rfl (Or.inl rfl)) (pgs_cons (pg_name (i := 3) scPointApart.nd rfl (Or.inl rfl)) (pgs_cons (pg_name (i := 4) scPointApart.nd rfl (Or.inl rfl)) pgs_nil)))))
      (pss_cons (ps_asg2 pe_int (pg_name (i := 5) scPointApart.nd rfl (Or.inl rfl)) (pg_name (i := 6) scPointApart.nd rfl (Or.inl rfl)))
      (pss_cons (ps_for PassesOwn.never rfl (piL K (pe_call (sp := spPrimeParts K) (okPrimeParts T) hr (by rfl) T.G_prime_parts T.F_prime_parts.kp T.B_prime_parts .nil pass0 (pa_cons (pe_callB (absQ K) (by rfl) T.m_abs (by decide +kernel) (pa_cons (pv 1) pa_nil)) pa_nil))) (pgT K 2 (by rfl) (pgs_cons (pg_name (i := 7) scPointApart.nd rfl (Or.inl rfl)) (pgs_cons (pg_name (i := 3) scPointApart.nd rfl (Or.inl rfl)) pgs_nil)))
      (pss_one (ps_if (pt_cmp (pc_neI (pe_op op_mod (pv 2) (pv 7)) pe_int))
        (pss_one (ps_set (i := 6) scPointApart.nd rfl (Or.inl rfl) (pe_op op_mulW (pv 6) (pv 7))))
        (pss_one (ps_if (pt_cmp (pc_neI (pe_op op_mod (pv 4) (pv 7)) pe_int))
          (pss_one (ps_set (i := 5) scPointApart.nd rfl (Or.inl rfl) (pe_op op_mulW (pv 5) (pv 7))))
          pss_nil)))))
      (pss_one (ps_ret (pe_tup (pa_cons (pv 5) (pa_cons (pv 6) pa_nil)))))))), ?_⟩
    clean_wf
    refine R.asg2 ?_
    clean_wf
    refine ⟨z.natAbs, l, rfl, by omega, Nat.lt_trans z1 (by decide), hl, ?_⟩
    intro H1 r as s1 nr hr ps has
    clean_wf
    have hpl := ps.len
    have hnl : (nats l).length = l.length := List.length_map _
    refine R.refs (S := SqL K _) (xs := as.map V.ref) (SqL.of hr) ?_
    refine for_list (K := K) (a := r) (xs := as.map V.ref) (fun i σ H2 => ∃ (x3 x7 : Option V), σ = [some (.ref af), some (.int z), some (.int a), x3, some (.int c), some (.int (ptF a c ((l.take i).map (·.1))).1), some (.int (ptF a c ((l.take i).map (·.1))).2), x7] ∧ Same H1 H2)
      ⟨_, _, rfl, Same.refl _⟩ (fun i σ H2 hi hPv => ?_) (fun i x σ H2 hx hPv => ?_) (fun σ H2 hPv => ?_)
    · obtain ⟨x3, x7, rfl, smn⟩ := hPv
      exact smn.seq (SqL.of hr)
    · obtain ⟨x3, x7, rfl, smn⟩ := hPv
      rw [List.getElem?_map] at hx
      have hi : i < l.length := by
        cases hh : as[i]? with
        | none =>
          rw [hh] at hx
          cases hx
        | some w =>
          have := (List.getElem?_eq_some_iff.mp hh).1
          omega
      have hli : l[i]? = some (l[i]'hi) := List.getElem?_eq_getElem hi
      obtain ⟨ax, hax, hax2⟩ := ps.at (i := i) (p := (((l[i]'hi).1 : Int), ((l[i]'hi).2 : Int))) (by
        unfold nats
        rw [List.getElem?_map, hli]
        rfl)
      rw [hax] at hx
      cases hx
      have hpp := hp (l[i]'hi) (List.getElem_mem hi)
      have e1 : (l.take (i + 1)).map (·.1) = (l.take i).map (·.1) ++ [(l[i]'hi).1] := by
        rw [List.take_add_one, hli, List.map_append]
        rfl
      rw [e1]
      have e2 : ptF a c ((l.take i).map (·.1) ++ [(l[i]'hi).1]) = ptS a c (ptF a c ((l.take i).map (·.1))) (l[i]'hi).1 := by
        unfold ptF
        rw [List.foldl_append]
        rfl
      rw [e2]
      have hsz := pt_size (a := a) (c := c) ((l.take i).map (·.1)) (1, 1) 1 (fun q hq => by
        obtain ⟨w, hw, rfl⟩ := List.mem_map.mp hq
        exact (hp w (List.mem_of_mem_take hw)).1) (by decide) (by decide)
      have hpb := prod_bd ((l.take i).map (·.1)) 1 0 (fun q hq => by
        obtain ⟨w, hw, rfl⟩ := List.mem_map.mp hq
        exact (hp w (List.mem_of_mem_take hw)).2) (by decide)
      rw [List.length_map, List.length_take] at hpb
      have hmi : 10 * min i l.length + 1 ≤ 1001 := by omega
      have bX : Bd 1001 (ptF a c ((l.take i).map (·.1))).1 := Nat.lt_of_le_of_lt hsz.1 (Nat.lt_of_lt_of_le hpb (Nat.pow_le_pow_right (by decide) (by omega)))
      have bY : Bd 1001 (ptF a c ((l.take i).map (·.1))).2 := Nat.lt_of_le_of_lt hsz.2 (Nat.lt_of_lt_of_le hpb (Nat.pow_le_pow_right (by decide) (by omega)))
      generalize ptF a c ((l.take i).map (·.1)) = s at *
      obtain ⟨X, Y⟩ := s
      dsimp only at bX bY
      have sx := same_at smn hax2
      have p0 : 0 < ((l[i]'hi).1 : Int) := by omega
      have bp : Bd 60 ((l[i]'hi).1 : Int) := Bd.om (by omega)
      generalize (l[i]'hi).1 = pn at *
      generalize (l[i]'hi).2 = kn at *
      unfold ptS
      clean_wf
      refine wayN2 (fun y => ?_) (fun y => ?_)
      · rw [if_neg y]
        clean_wf
        exact ⟨_, _, rfl, smn⟩
      · rw [if_pos y]
        clean_wf
        refine wayN2 (fun y2 => ?_) (fun y2 => ?_)
        · rw [if_neg y2]
          clean_wf
          exact ⟨_, _, rfl, smn⟩
        · rw [if_pos y2]
          clean_wf
          exact ⟨_, _, rfl, smn⟩
    · obtain ⟨x3, x7, rfl, smn⟩ := hPv
      rw [show (as.map V.ref).length = l.length by rw [List.length_map]; omega, List.take_length]
      clean_wf
      refine kk _ _ ?_ ht
      array_mem_dec
def spMultiply (K : PySem.W.Frag) : Sp := fun vs H Q _ => ∃ (am an : Addr) (p q r s p2 q2 r2 s2 : Int) (N : Nat), vs = [.ref am, .ref an] ∧ SqT K H am [.int p, .int q, .int r, .int s] ∧ SqT K H an [.int p2, .int q2, .int r2, .int s2] ∧ Bd N p ∧ Bd N q ∧ Bd N r ∧ Bd N s ∧ Bd N p2 ∧ Bd N q2 ∧ Bd N r2 ∧ Bd N s2 ∧ N ≤ 400000 ∧ (R.Nw H [.int (p * p2 + q * r2), .int (p * q2 + q * s2), .int (r * p2 + s * r2), .int (r * q2 + s * s2)] Q)
theorem uMultiply {K : PySem.W.Frag} {H : Hp} {Q : VK} {E : XK} {vs : List V} {am an : Addr} {p q r s p2 q2 r2 s2 : Int} {n0 n1 n2 n3 n4 n5 n6 n7 : Nat} (hev : vs = [.ref am, .ref an]) (s0 : SqT K H am [.int p, .int q, .int r, .int s]) (s1 : SqT K H an [.int p2, .int q2, .int r2, .int s2]) (b0 : Bd n0 p) (b1 : Bd n1 q) (b2 : Bd n2 r) (b3 : Bd n3 s) (b4 : Bd n4 p2) (b5 : Bd n5 q2) (b6 : Bd n6 r2) (b7 : Bd n7 s2) (hll : (n0 + n1 + n2 + n3 + n4 + n5 + n6 + n7 ≤ 400000) = True) (kk : R.Nw H [.int (p * p2 + q * r2), .int (p * q2 + q * s2), .int (r * p2 + s * r2), .int (r * q2 + s * s2)] Q) : spMultiply K vs H Q E :=
  have hll := of_eq_true hll
  ⟨am, an, p, q, r, s, p2, q2, r2, s2, n0 + n1 + n2 + n3 + n4 + n5 + n6 + n7, hev, s0, s1, b0.mono (by omega), b1.mono (by omega), b2.mono (by omega), b3.mono (by omega), b4.mono (by omega), b5.mono (by omega), b6.mono (by omega), b7.mono (by omega), hll, kk⟩
theorem okMultiply (T : Txt K mg fa fd) : FnOk P w K mg base CX0 1 (fa 17) (fd 17) ["m", "n"] (spMultiply K) := by
  refine T.F_multiply.ok scMultiply (fun vs H Q E h => ?_) (fun cdv A outer s H vs Q E hr h => ?_)
  · obtain ⟨am, an, p, q, r, s, p2, q2, r2, s2, N, rfl, h_am, h_an, b_p, b_q, b_r, b_s, b_p2, b_q2, b_r2, b_s2, hN, kk⟩ := h
    rfl
  · obtain ⟨am, an, p, q, r, s, p2, q2, r2, s2, N, rfl, h_am, h_an, b_p, b_q, b_r, b_s, b_p2, b_q2, b_r2, b_s2, hN, kk⟩ := h
    refine ⟨_, (pss_cons (ps_asg (pv 0) (pgT K 4 (by rfl) (pgs_cons (pg_name (i := 2) scMultiply.nd rfl (Or.inl rfl)) (pgs_cons (pg_name (i := 3) scMultiply.nd rfl (Or.inl rfl)) (pgs_cons (pg_name (i := 4) scMultiply.nd rfl (Or.inl rfl)) (pgs_cons (pg_name (i := 5) scMultiply.nd rfl (Or.inl rfl)) pgs_nil))))))
      (pss_cons (ps_asg (pv 1) (pgT K 4 (by rfl) (pgs_cons (pg_name (i := 6) scMultiply.nd rfl (Or.inl rfl)) (pgs_cons (pg_name (i := 7) scMultiply.nd rfl (Or.inl rfl)) (pgs_cons (pg_name (i := 8) scMultiply.nd rfl (Or.inl rfl)) (pgs_cons (pg_name (i := 9) scMultiply.nd rfl (Or.inl rfl)) pgs_nil))))))
      (pss_one (ps_ret (pe_tup (pa_cons (pe_op op_add (pe_op op_mulW (pv 2) (pv 6)) (pe_op op_mulW (pv 3) (pv 8))) (pa_cons (pe_op op_add (pe_op op_mulW (pv 2) (pv 7)) (pe_op op_mulW (pv 3) (pv 9))) (pa_cons (pe_op op_add (pe_op op_mulW (pv 4) (pv 6)) (pe_op op_mulW (pv 5) (pv 8))) (pa_cons (pe_op op_add (pe_op op_mulW (pv 4) (pv 7)) (pe_op op_mulW (pv 5) (pv 9))) pa_nil))))))))), ?_⟩
    clean_wf
    all_goals first | omega | exact kk | (refine kk _ _ ?_ (by assumption); (repeat' (first | with_reducible exact Same.refl _ | with_reducible assumption | ((with_reducible apply sameB); with_reducible assumption))))
def spDeterminant (K : PySem.W.Frag) : Sp := fun vs H Q _ => ∃ (am : Addr) (p q r s : Int) (N : Nat), vs = [.ref am] ∧ SqT K H am [.int p, .int q, .int r, .int s] ∧ Bd N p ∧ Bd N q ∧ Bd N r ∧ Bd N s ∧ N ≤ 400000 ∧ (Q (.int (p * s - q * r)) H)
theorem uDeterminant {K : PySem.W.Frag} {H : Hp} {Q : VK} {E : XK} {vs : List V} {am : Addr} {p q r s : Int} {n0 n1 n2 n3 : Nat} (hev : vs = [.ref am]) (s0 : SqT K H am [.int p, .int q, .int r, .int s]) (b0 : Bd n0 p) (b1 : Bd n1 q) (b2 : Bd n2 r) (b3 : Bd n3 s) (hll : (n0 + n1 + n2 + n3 ≤ 400000) = True) (kk : Q (.int (p * s - q * r)) H) : spDeterminant K vs H Q E :=
  have hll := of_eq_true hll
  ⟨am, p, q, r, s, n0 + n1 + n2 + n3, hev, s0, b0.mono (by omega), b1.mono (by omega), b2.mono (by omega), b3.mono (by omega), hll, kk⟩
theorem okDeterminant (T : Txt K mg fa fd) : FnOk P w K mg base CX0 1 (fa 18) (fd 18) ["m"] (spDeterminant K) := by
  refine T.F_determinant.ok scDeterminant (fun vs H Q E h => ?_) (fun cdv A outer s H vs Q E hr h => ?_)
  · obtain ⟨am, p, q, r, s, N, rfl, h_am, b_p, b_q, b_r, b_s, hN, kk⟩ := h
    rfl
  · obtain ⟨am, p, q, r, s, N, rfl, h_am, b_p, b_q, b_r, b_s, hN, kk⟩ := h
    refine ⟨_, (pss_cons (ps_asg (pv 0) (pgT K 4 (by rfl) (pgs_cons (pg_name (i := 1) scDeterminant.nd rfl (Or.inl rfl)) (pgs_cons (pg_name (i := 2) scDeterminant.nd rfl (Or.inl rfl)) (pgs_cons (pg_name (i := 3) scDeterminant.nd rfl (Or.inl rfl)) (pgs_cons (pg_name (i := 4) scDeterminant.nd rfl (Or.inl rfl)) pgs_nil))))))
      (pss_one (ps_ret (pe_op op_sub (pe_op op_mulW (pv 1) (pv 4)) (pe_op op_mulW (pv 2) (pv 3)))))), ?_⟩
    clean_wf
    all_goals first | omega | exact kk | (refine kk _ _ ?_ (by assumption); (repeat' (first | with_reducible exact Same.refl _ | with_reducible assumption | ((with_reducible apply sameB); with_reducible assumption))))
def spNegative (K : PySem.W.Frag) : Sp := fun vs H Q _ => ∃ (am : Addr) (p q r s : Int) (N : Nat), vs = [.ref am] ∧ SqT K H am [.int p, .int q, .int r, .int s] ∧ Bd N p ∧ Bd N q ∧ Bd N r ∧ Bd N s ∧ N ≤ 400000 ∧ (R.Nw H [.int (-p), .int (-q), .int (-r), .int (-s)] Q)
theorem uNegative {K : PySem.W.Frag} {H : Hp} {Q : VK} {E : XK} {vs : List V} {am : Addr} {p q r s : Int} {n0 n1 n2 n3 : Nat} (hev : vs = [.ref am]) (s0 : SqT K H am [.int p, .int q, .int r, .int s]) (b0 : Bd n0 p) (b1 : Bd n1 q) (b2 : Bd n2 r) (b3 : Bd n3 s) (hll : (n0 + n1 + n2 + n3 ≤ 400000) = True) (kk : R.Nw H [.int (-p), .int (-q), .int (-r), .int (-s)] Q) : spNegative K vs H Q E :=
  have hll := of_eq_true hll
  ⟨am, p, q, r, s, n0 + n1 + n2 + n3, hev, s0, b0.mono (by omega), b1.mono (by omega), b2.mono (by omega), b3.mono (by omega), hll, kk⟩
theorem okNegative (T : Txt K mg fa fd) : FnOk P w K mg base CX0 1 (fa 19) (fd 19) ["m"] (spNegative K) := by
  refine T.F_negative.ok scNegative (fun vs H Q E h => ?_) (fun cdv A outer s H vs Q E hr h => ?_)
  · obtain ⟨am, p, q, r, s, N, rfl, h_am, b_p, b_q, b_r, b_s, hN, kk⟩ := h
    rfl
  · obtain ⟨am, p, q, r, s, N, rfl, h_am, b_p, b_q, b_r, b_s, hN, kk⟩ := h
    refine ⟨_, (pss_cons (ps_asg (pv 0) (pgT K 4 (by rfl) (pgs_cons (pg_name (i := 1) scNegative.nd rfl (Or.inl rfl)) (pgs_cons (pg_name (i := 2) scNegative.nd rfl (Or.inl rfl)) (pgs_cons (pg_name (i := 3) scNegative.nd rfl (Or.inl rfl)) (pgs_cons (pg_name (i := 4) scNegative.nd rfl (Or.inl rfl)) pgs_nil))))))
      (pss_one (ps_ret (pe_tup (pa_cons (pe_un un_neg (pv 1)) (pa_cons (pe_un un_neg (pv 2)) (pa_cons (pe_un un_neg (pv 3)) (pa_cons (pe_un un_neg (pv 4)) pa_nil)))))))), ?_⟩
    clean_wf
    all_goals first | omega | exact kk | (refine kk _ _ ?_ (by assumption); (repeat' (first | with_reducible exact Same.refl _ | with_reducible assumption | ((with_reducible apply sameB); with_reducible assumption))))
def spInverse (K : PySem.W.Frag) : Sp := fun vs H Q _ => ∃ (am : Addr) (p q r s : Int) (N : Nat), vs = [.ref am] ∧ SqT K H am [.int p, .int q, .int r, .int s] ∧ Bd N p ∧ Bd N q ∧ Bd N r ∧ Bd N s ∧ N ≤ 100000 ∧ (p * s - q * r = 1 ∨ p * s - q * r = -1) ∧ (R.Nw H [.int ((p * s - q * r) * s), .int (-((p * s - q * r) * q)), .int (-((p * s - q * r) * r)), .int ((p * s - q * r) * p)] Q)
theorem uInverse {K : PySem.W.Frag} {H : Hp} {Q : VK} {E : XK} {vs : List V} {am : Addr} {p q r s : Int} {n0 n1 n2 n3 : Nat} (hev : vs = [.ref am]) (s0 : SqT K H am [.int p, .int q, .int r, .int s]) (b0 : Bd n0 p) (b1 : Bd n1 q) (b2 : Bd n2 r) (b3 : Bd n3 s) (hll : (n0 + n1 + n2 + n3 ≤ 100000) = True) (hcc : (p * s - q * r = 1 ∨ p * s - q * r = -1)) (kk : R.Nw H [.int ((p * s - q * r) * s), .int (-((p * s - q * r) * q)), .int (-((p * s - q * r) * r)), .int ((p * s - q * r) * p)] Q) : spInverse K vs H Q E :=
  have hll := of_eq_true hll
  ⟨am, p, q, r, s, n0 + n1 + n2 + n3, hev, s0, b0.mono (by omega), b1.mono (by omega), b2.mono (by omega), b3.mono (by omega), hll, hcc, kk⟩
theorem okInverse (T : Txt K mg fa fd) : FnOk P w K mg base CX0 2 (fa 20) (fd 20) ["m"] (spInverse K) := by
  refine T.F_inverse.ok scInverse (fun vs H Q E h => ?_) (fun cdv A outer s H vs Q E hr h => ?_)
  · obtain ⟨am, p, q, r, s, N, rfl, h_am, b_p, b_q, b_r, b_s, hN, c, kk⟩ := h
    rfl
  · obtain ⟨am, p, q, r, s, N, rfl, h_am, b_p, b_q, b_r, b_s, hN, c, kk⟩ := h
    refine ⟨_, (pss_cons (ps_asg (pv 0) (pgT K 4 (by rfl) (pgs_cons (pg_name (i := 1) scInverse.nd rfl (Or.inl rfl)) (pgs_cons (pg_name (i := 2) scInverse.nd rfl (Or.inl rfl)) (pgs_cons (pg_name (i := 3) scInverse.nd rfl (Or.inl rfl)) (pgs_cons (pg_name (i := 4) scInverse.nd rfl (Or.inl rfl)) pgs_nil))))))
      (pss_cons (ps_set (i := 5) scInverse.nd rfl (Or.inl rfl) (pe_tup (pa_cons (pv 4) (pa_cons (pe_un un_neg (pv 2)) (pa_cons (pe_un un_neg (pv 3)) (pa_cons (pv 1) pa_nil))))))
      (pss_one (ps_ret (pe_ifExp (pt_cmp (pc_eqI (pe_call (sp := spDeterminant K) (okDeterminant T) hr (by rfl) T.G_determinant T.F_determinant.kp T.B_determinant .nil pass0 (pa_cons (pv 0) pa_nil)) pe_int)) (pv 5) (pe_call (sp := spNegative K) (okNegative T) hr (by rfl) T.G_negative T.F_negative.kp T.B_negative .nil pass0 (pa_cons (pv 5) pa_nil))))))), ?_⟩
    clean_wf

    refine way2 (fun e => ?_) (fun e => ?_)
    · rw [e, Int.one_mul, Int.one_mul, Int.one_mul, Int.one_mul] at kk
      clean_wf
      all_goals exact kk _ _ (by assumption) (by assumption)
    · have e1 : p * s - q * r = -1 := c.resolve_left e
      rw [e1] at kk
      have e2 : ∀ x : Int, -1 * x = -x := fun x => by omega
      rw [e2, e2, e2, e2] at kk
      clean_wf
      all_goals (refine kk _ _ ?_ (by assumption); (repeat' (first | with_reducible exact Same.refl _ | with_reducible assumption | ((with_reducible apply sameB); with_reducible assumption))))
def spCompleted (K : PySem.W.Frag) : Sp := fun vs H Q _ => ∃ (ap : Addr) (x y : Int), vs = [.ref ap] ∧ SqT K H ap [.int x, .int y] ∧ gI x y = 1 ∧ Bd 60 x ∧ Bd 60 y ∧ ∀ u v, u * x + v * y = 1 → Bd 9404 u → Bd 9404 v → R.Nw H [.int x, .int (-v), .int y, .int u] Q
theorem uCompleted {K : PySem.W.Frag} {H : Hp} {Q : VK} {E : XK} {vs : List V} {ap : Addr} {x y : Int} (e : vs = [.ref ap]) (hs : SqT K H ap [.int x, .int y]) (hg : gI x y = 1) (b1 : Bd 60 x) (b2 : Bd 60 y) (kk : ∀ u v, u * x + v * y = 1 → Bd 9404 u → Bd 9404 v → R.Nw H [.int x, .int (-v), .int y, .int u] Q) : spCompleted K vs H Q E := ⟨ap, x, y, e, hs, hg, b1, b2, kk⟩
theorem okCompleted (T : Txt K mg fa fd) : FnOk P w K mg base CX0 2 (fa 21) (fd 21) ["point"] (spCompleted K) := by
  refine T.F_completed.ok scCompleted (fun vs H Q E h => ?_) (fun cdv A outer s H vs Q E hr h => ?_)
  · obtain ⟨ap, x, y, rfl, hs, hg, b1, b2, kk⟩ := h
    rfl
  · obtain ⟨ap, x, y, rfl, hs, hg, b1, b2, kk⟩ := h
    refine ⟨_, (pss_cons (ps_asg (pv 0) (pgT K 2 (by rfl) (pgs_cons (pg_name (i := 1) scCompleted.nd rfl (Or.inl rfl)) (pgs_cons (pg_name (i := 2) scCompleted.nd rfl (Or.inl rfl)) pgs_nil))))
      (pss_cons (ps_asg (pe_call (sp := spBezout K) (okBezout T) hr (by rfl) T.G_bezout T.F_bezout.kp T.B_bezout .nil pass0 (pa_cons (pv 1) (pa_cons (pv 2) pa_nil))) (pgT K 3 (by rfl) (pgs_cons (pg_name (i := 3) scCompleted.nd rfl (Or.inl rfl)) (pgs_cons (pg_name (i := 4) scCompleted.nd rfl (Or.inl rfl)) (pgs_cons (pg_name (i := 5) scCompleted.nd rfl (Or.inl rfl)) pgs_nil)))))
      (pss_one (ps_ret (pe_tup (pa_cons (pv 1) (pa_cons (pe_un un_neg (pv 5)) (pa_cons (pv 2) (pa_cons (pv 4) pa_nil))))))))), ?_⟩
    have b1' : x.natAbs < 1152921504606846976 := b1
    have b2' : y.natAbs < 1152921504606846976 := b2
    clean_wf
    intro H' p u v sm hp e bu bv
    rw [hg] at e
    have k2 := kk u v e bu bv
    clean_wf
    refine k2 _ _ ?_ ht
    array_mem_dec
def spIsReducedDefinite (K : PySem.W.Frag) : Sp := fun vs H Q _ => ∃ (af : Addr) (a b c : Int), vs = [.ref af] ∧ SqT K H af [.int a, .int b, .int c] ∧ Q (.bl (decide (RedD a b c))) H
theorem uIsReducedDefinite {K : PySem.W.Frag} {H : Hp} {Q : VK} {E : XK} {vs : List V} {af : Addr} {a b c : Int} (e : vs = [.ref af]) (hs : SqT K H af [.int a, .int b, .int c]) (kk : Q (.bl (decide (RedD a b c))) H) : spIsReducedDefinite K vs H Q E := ⟨af, a, b, c, e, hs, kk⟩
theorem okIsReducedDefinite (T : Txt K mg fa fd) : FnOk P w K mg base CX0 1 (fa 22) (fd 22) ["form"] (spIsReducedDefinite K) := by
  refine T.F_is_reduced_definite.ok scIsReducedDefinite (fun vs H Q E h => ?_) (fun cdv A outer s H vs Q E hr h => ?_)
  · obtain ⟨af, a, b, c, rfl, hs, kk⟩ := h
    rfl
  · obtain ⟨af, a, b, c, rfl, hs, kk⟩ := h
    refine ⟨_, (pss_cons (ps_asg (pv 0) (pgT K 3 (by rfl) (pgs_cons (pg_name (i := 1) scIsReducedDefinite.nd rfl (Or.inl rfl)) (pgs_cons (pg_name (i := 2) scIsReducedDefinite.nd rfl (Or.inl rfl)) (pgs_cons (pg_name (i := 3) scIsReducedDefinite.nd rfl (Or.inl rfl)) pgs_nil)))))
      (pss_one (ps_ret (pe_and (pe_chain3 op_lt op_le op_le (pe_un un_neg (pv 1)) (pv 2) (pv 1) (pv 3)) (pe_one (pe_or (pe_cmp (pc_ge (pv 2) pe_int)) (pe_one (pe_cmp (pc_neI (pv 1) (pv 3)))))))))), ?_⟩
    clean_wf
    refine r_chain3 ?_
    clean_wf
    by_cases z1 : -a < b
    rotate_left
    · rw [decide_eq_false z1]
      rw [decide_eq_false (fun h => z1 h.1)] at kk
      clean_wf
    rw [decide_eq_true z1]
    clean_wf
    by_cases z2 : b ≤ a
    rotate_left
    · rw [decide_eq_false z2]
      rw [decide_eq_false (fun h => z2 h.2.1)] at kk
      clean_wf
    rw [decide_eq_true z2]
    clean_wf
    by_cases z3 : a ≤ c
    rotate_left
    · rw [decide_eq_false z3]
      rw [decide_eq_false (fun h => z3 h.2.2.1)] at kk
      clean_wf
    rw [decide_eq_true z3]
    clean_wf
    by_cases z4 : 0 ≤ b
    · rw [decide_eq_true z4]
      rw [decide_eq_true (show RedD a b c from ⟨z1, z2, z3, .inl z4⟩)] at kk
      clean_wf
    rw [decide_eq_false z4]
    clean_wf
    have e : decide (RedD a b c) = !decide (a = c) := by
      by_cases z5 : a = c
      · rw [decide_eq_true z5, decide_eq_false (fun h => h.2.2.2.elim z4 (fun h => h z5))]
        rfl
      · rw [decide_eq_false z5, decide_eq_true (show RedD a b c from ⟨z1, z2, z3, .inr z5⟩)]
        rfl
    rw [e] at kk
    clean_wf
def nD (a b : Int) : Int := (a - b).fdiv (2 * a)
theorem nD_spec {a b : Int} (a0 : 0 < a) : -a < b + 2 * a * nD a b ∧ b + 2 * a * nD a b ≤ a ∧ (nD a b = 0 ↔ (-a < b ∧ b ≤ a)) := by
  unfold nD
  rw [Int.fdiv_eq_ediv_of_nonneg _ (by omega)]
  have m0 := Int.emod_nonneg (a - b) (show 2 * a ≠ 0 by omega)
  have m1 := Int.emod_lt_of_pos (a - b) (show 0 < 2 * a by omega)
  have m2 := Int.mul_ediv_add_emod (a - b) (2 * a)
  refine ⟨by omega, by omega, fun h => ?_, fun h => ?_⟩
  · rw [h] at m2
    omega
  · exact Int.ediv_eq_zero_of_lt (by omega) (by omega)
def spStepDown (K : PySem.W.Frag) : Sp := fun vs H Q _ => ∃ (af : Addr) (a b c : Int), vs = [.ref af] ∧ SqT K H af [.int a, .int b, .int c] ∧ 0 < a ∧ Bd 60 a ∧ Bd 60 b ∧ ((nD a b ≠ 0 ∧ R.Nw H [.int 1, .int (nD a b), .int 0, .int 1] Q) ∨ (nD a b = 0 ∧ R.Nw H [.int 0, .int (-1), .int 1, .int 0] Q))
theorem okStepDown (T : Txt K mg fa fd) : FnOk P w K mg base CX0 1 (fa 24) (fd 24) ["form"] (spStepDown K) := by
  refine T.F__step_down.ok scStepDown (fun vs H Q E h => ?_) (fun cdv A outer s H vs Q E hr h => ?_)
  · obtain ⟨af, a, b, c, rfl, hs, a0, b1, b2, kk⟩ := h
    rfl
  · obtain ⟨af, a, b, c, rfl, hs, a0, b1, b2, kk⟩ := h
    refine ⟨_, (pss_cons (ps_asg (pv 0) (pgT K 3 (by rfl) (pgs_cons (pg_name (i := 1) scStepDown.nd rfl (Or.inl rfl)) (pgs_cons (pg_name (i := 2) scStepDown.nd rfl (Or.inl rfl)) (pgs_cons (pg_name (i := 3) scStepDown.nd rfl (Or.inl rfl)) pgs_nil)))))
      (pss_cons (ps_set (i := 4) scStepDown.nd rfl (Or.inl rfl) (pe_op op_fdivX (pe_op op_sub (pv 1) (pv 2)) (pe_op op_mulW pe_int (pv 1))))
      (pss_cons (ps_if (pt_cmp (pc_neI (pv 4) pe_int))
      (pss_one (ps_ret (pe_tup (pa_cons pe_int (pa_cons (pv 4) (pa_cons pe_int (pa_cons pe_int pa_nil)))))))
      pss_nil)
      (pss_one (ps_ret (pe_tup (pa_cons pe_int (pa_cons (pe_un un_neg pe_int) (pa_cons pe_int (pa_cons pe_int pa_nil)))))))))), ?_⟩
    clean_wf
    have e : (a - b).fdiv (2 * a) = nD a b := rfl
    rw [e]
    refine wayN2 (fun z => ?_) (fun z => ?_)
    · obtain ⟨_, kk⟩ := kk.resolve_right (fun h => z h.1)
      clean_wf
      exact kk _ _ sn ht
    · obtain ⟨_, kk⟩ := kk.resolve_left (fun h => h.1 z)
      clean_wf
      exact kk _ _ sn ht
/-- what reduce_definite gives of a positive form -/
structure RdD (E a0 b0 c0 a b c p q r s : Int) : Prop where
  F : PF E a b c
  ea : a = fA a0 b0 c0 p r
  eb : b = fB a0 b0 c0 p q r s
  ec : c = fA a0 b0 c0 q s
  det : p * s - q * r = 1
  ba : a ≤ 274877906944
  bb : (b.natAbs : Int) ≤ 1099511627776
  bc : c ≤ 1099511627776
theorem RdD.tr {E a0 b0 c0 a b c p q r s n : Int} (h : RdD E a0 b0 c0 a b c p q r s) (b1 : ((b + 2 * a * n).natAbs : Int) ≤ 1099511627776) (b2 : a * n * n + b * n + c ≤ 1099511627776) :
    RdD E a0 b0 c0 a (b + 2 * a * n) (a * n * n + b * n + c) (p * 1 + q * 0) (p * n + q * 1) (r * 1 + s * 0) (r * n + s * 1) := by
  obtain ⟨F, ea, eb, ec, det, ba, bb, bc⟩ := h
  refine ⟨F.tr n, ?_, ?_, ?_, ?_, ba, b1, b2⟩
  · rw [← actA, ← ea, ← eb, ← ec]
    unfold fA
    grind
  · rw [← actB, ← ea, ← eb, ← ec]
    unfold fB
    grind
  · rw [← actA, ← ea, ← eb, ← ec]
    unfold fA
    grind
  · grind
theorem RdD.sw {E a0 b0 c0 a b c p q r s : Int} (h : RdD E a0 b0 c0 a b c p q r s) (b1 : c ≤ 274877906944) :
    RdD E a0 b0 c0 c (-b) a (p * 0 + q * 1) (p * (-1) + q * 0) (r * 0 + s * 1) (r * (-1) + s * 0) := by
  obtain ⟨F, ea, eb, ec, det, ba, bb, bc⟩ := h
  refine ⟨F.sw, ?_, ?_, ?_, ?_, b1, by omega, by omega⟩
  · rw [← actA, ← ea, ← eb, ← ec]
    unfold fA
    grind
  · rw [← actB, ← ea, ← eb, ← ec]
    unfold fB
    grind
  · rw [← actA, ← ea, ← eb, ← ec]
    unfold fA
    grind
  · grind
theorem act_tr (a b c n : Int) : a * 1 * 1 + b * 1 * 0 + c * 0 * 0 = a ∧ 2 * a * 1 * n + b * (1 * 1 + n * 0) + 2 * c * 0 * 1 = b + 2 * a * n ∧ a * n * n + b * n * 1 + c * 1 * 1 = a * n * n + b * n + c := by
  refine ⟨by omega, ?_, ?_⟩
  · grind
  · grind
theorem act_sw (a b c : Int) : a * 0 * 0 + b * 0 * 1 + c * 1 * 1 = c ∧ 2 * a * 0 * (-1) + b * (0 * 0 + (-1) * 1) + 2 * c * 1 * 0 = -b ∧ a * (-1) * (-1) + b * (-1) * 0 + c * 0 * 0 = a := by
  refine ⟨by omega, ?_, ?_⟩
  · grind
  · grind
/-- the measure of the walk down -/
def Ms (a b c : Int) (i k m : Nat) : Prop := (RedD a b c ∧ m = 0 ∧ i ≤ 283) ∨ (¬ RedD a b c ∧ ((¬ (-a < b ∧ b ≤ a) ∧ m = 2 * k + 2) ∨ ((-a < b ∧ b ≤ a) ∧ m = 2 * k + 1)) ∧ i + m ≤ 282 ∧ Pt9 a k)
theorem ms_start {a b c : Int} (a0 : 0 < a) (h : a ≤ 274877906944) : ∃ m, Ms a b c 0 140 m := by
  have pt : Pt9 a 140 := .inr ⟨39, rfl, by show a.toNat < 549755813888; omega⟩
  by_cases z : RedD a b c
  · exact ⟨0, .inl ⟨z, rfl, by decide⟩⟩
  · by_cases y : -a < b ∧ b ≤ a
    · exact ⟨281, .inr ⟨z, .inr ⟨y, rfl⟩, by decide, pt⟩⟩
    · exact ⟨282, .inr ⟨z, .inl ⟨y, rfl⟩, by decide, pt⟩⟩
theorem Ms.tr {a b c b' c' : Int} {i k m : Nat} (h : Ms a b c i k m) (z : ¬ RedD a b c) (hn : ¬ (-a < b ∧ b ≤ a)) (v1 : -a < b') (v2 : b' ≤ a) : ∃ m', m' < m ∧ Ms a b' c' (i + 1) k m' := by
  rcases h with ⟨h, _⟩ | ⟨_, hm, hi, pt⟩
  · exact absurd h z
  · have em : m = 2 * k + 2 := by
      rcases hm with ⟨_, h⟩ | ⟨h, _⟩
      · exact h
      · exact absurd h hn
    by_cases y : RedD a b' c'
    · exact ⟨0, by omega, .inl ⟨y, rfl, by omega⟩⟩
    · exact ⟨2 * k + 1, by omega, .inr ⟨y, .inr ⟨⟨v1, v2⟩, rfl⟩, by omega, pt⟩⟩
theorem Ms.sw {E a b c : Int} {i k m : Nat} (h : Ms a b c i k m) (F : PF E a b c) (z : ¬ RedD a b c) (v1 : -a < b) (v2 : b ≤ a) (hca : c ≤ a) : ∃ m', m' < m ∧ ∃ k', Ms c (-b) a (i + 1) k' m' := by
  rcases h with ⟨h, _⟩ | ⟨_, hm, hi, pt⟩
  · exact absurd h z
  · have em : m = 2 * k + 1 := by
      rcases hm with ⟨h, _⟩ | ⟨_, h⟩
      · exact absurd ⟨v1, v2⟩ h
      · exact h
    have c0 := F.c0
    by_cases y : RedD c (-b) a
    · exact ⟨0, by omega, 0, .inl ⟨y, rfl, by omega⟩⟩
    · have lt : c < a := by
        by_cases x : c < a
        · exact x
        · exfalso
          have e : c = a := by omega
          subst e
          by_cases w : 0 ≤ b
          · exact z ⟨v1, v2, by omega, .inl w⟩
          · exact y ⟨by omega, by omega, by omega, .inl (by omega)⟩
      obtain ⟨k', h1, h2⟩ : ∃ k', k' < k ∧ Pt9 c k' := by
        by_cases x : 100 < a
        · exact pt_half pt x c0 (F.half v1 v2 x)
        · exact pt_less pt (by omega) c0 lt
      by_cases w : -c < -b ∧ -b ≤ c
      · exact ⟨2 * k' + 1, by omega, k', .inr ⟨y, .inr ⟨w, rfl⟩, by omega, h2⟩⟩
      · exact ⟨2 * k' + 2, by omega, k', .inr ⟨y, .inl ⟨w, rfl⟩, by omega, h2⟩⟩
def spRd0 (K : PySem.W.Frag) : Sp := fun vs H Q _ => ∃ (af : Addr) (a b c E : Int), vs = [.ref af] ∧ SqT K H af [.int a, .int b, .int c] ∧ PF E a b c ∧ a ≤ 274877906944 ∧ (b.natAbs : Int) ≤ 274877906944 ∧ c ≤ 274877906944 ∧
  ∀ H' t tf tm a' b' c' p q r s, Same H H' → H' t = some (.tup [.ref tf, .ref tm]) → SqT K H' tf [.int a', .int b', .int c'] → SqT K H' tm [.int p, .int q, .int r, .int s] → RdD E a b c a' b' c' p q r s → RedD a' b' c' → Bd 8000 p → Bd 8000 q → Bd 8000 r → Bd 8000 s → Q (.ref t) H'

theorem okRd0 (T : Txt K mg fa fd) : FnOk P w K mg base CX0 3 (fa 23) (fd 23) ["form"] (spRd0 K) := by
  refine T.F_reduce_definite.ok scReduceDefinite (fun vs H Q E h => ?_) (fun cdv A outer s0 H vs Q E0' hr h => ?_)
  · obtain ⟨af, a, b, c, E, rfl, _⟩ := h
    rfl
  · obtain ⟨af, a0, b0, c0, E, rfl, hs, F0, h1, h2, h3, kk⟩ := h
    refine ⟨_, (pss_cons (ps_if (pt_cmp (pc_lt (pe_ix (ixT K) (pv 0) pe_int (fun _ _ => rfl)) pe_int))
      (pss_cons ps_never (pss_one ps_never))
      pss_nil)
      (pss_cons (ps_set (i := 2) scReduceDefinite.nd rfl (Or.inl rfl) (pe_glob (v := .ref (fa 60)) (by rfl) T.g_UNIT rfl))
      (pss_cons (ps_while PassesOwn.never (pt_not (pt_val (pe_call (sp := spIsReducedDefinite K) (okIsReducedDefinite T) (hr.mono (by decide)) (by rfl) T.G_is_reduced_definite T.F_is_reduced_definite.kp T.B_is_reduced_definite .nil pass0 (pa_cons (pv 0) pa_nil))))
      (pss_cons (ps_set (i := 3) scReduceDefinite.nd rfl (Or.inl rfl) (pe_call (sp := spStepDown K) (okStepDown T) (hr.mono (by decide)) (by rfl) T.G__step_down T.F__step_down.kp T.B__step_down .nil pass0 (pa_cons (pv 0) pa_nil)))
        (pss_cons (ps_set (i := 0) scReduceDefinite.nd rfl (Or.inl rfl) (pe_call (sp := spAct K) (okAct T) (hr.mono (by decide)) (by rfl) T.G_act T.F_act.kp T.B_act .nil pass0 (pa_cons (pv 0) (pa_cons (pv 3) pa_nil))))
        (pss_one (ps_set (i := 2) scReduceDefinite.nd rfl (Or.inl rfl) (pe_call (sp := spMultiply K) (okMultiply T) (hr.mono (by decide)) (by rfl) T.G_multiply T.F_multiply.kp T.B_multiply .nil pass0 (pa_cons (pv 2) (pa_cons (pv 3) pa_nil))))))))
      (pss_one (ps_ret (pe_tup (pa_cons (pv 0) (pa_cons (pv 2) pa_nil)))))))), ?_⟩
    have hU := fun H => T.S_UNIT H
    have fa0 := F0.a0
    clean_wf
    refine wayF (by omega) ?_
    clean_wf
    refine ⟨fun m σ H' => ∃ (tf tm : Addr) (x1 x3 : Option V) (a b c p q r s : Int) (i k u : Nat), σ = [some (.ref tf), x1, some (.ref tm), x3] ∧ Same H H' ∧ SqT K H' tf [.int a, .int b, .int c] ∧ SqT K H' tm [.int p, .int q, .int r, .int s] ∧ RdD E a0 b0 c0 a b c p q r s ∧
        Bd (24 * i + u + 1) p ∧ Bd (24 * i + u + 1) q ∧ Bd (24 * i + u + 1) r ∧ Bd (24 * i + u + 1) s ∧ u ≤ 20 ∧ (u = 0 ∨ (-a < b ∧ b ≤ a)) ∧ Ms a b c i k m, ?_, ?_⟩
    · have R0 : RdD E a0 b0 c0 a0 b0 c0 1 0 0 1 := ⟨F0, by unfold fA; omega, by unfold fB; omega, by unfold fA; omega, by decide, h1, by omega, by omega⟩
      obtain ⟨m0, hm0⟩ := ms_start (b := b0) (c := c0) fa0 h1
      exact ⟨m0, _, _, _, _, a0, b0, c0, 1, 0, 0, 1, 0, 140, 0, rfl, Same.refl _, by simp_wf, by simp_wf, R0, by unfold Bd; decide, by unfold Bd; decide, by unfold Bd; decide, by unfold Bd; decide, by decide, .inl rfl, hm0⟩
    rintro m σ H' ⟨tf, tm, x1, x3, a, b, c, p, q, r, s, i, k, u, rfl, sm, sf, st, RI, e1, e2, e3, e4, hu, hun, hm⟩
    have hi9 : i ≤ 283 := by
      rcases hm with ⟨_, _, h⟩ | ⟨_, _, h, _⟩ <;> omega
    have F := RI.F
    have ba := RI.ba
    have bb := RI.bb
    have bc := RI.bc
    have a0' := F.a0
    have c0' := F.c0
    have ee0 := F.e0
    have ee1 := F.e1
    have g1 : Bd 60 a := Bd.om (by omega)
    have g2 : Bd 60 b := Bd.om (by omega)
    have g3 : Bd 60 c := Bd.om (by omega)
    have y0 : Bd 1 0 := by unfold Bd; decide
    have y1 : Bd 1 1 := by unfold Bd; decide
    have ym : Bd 1 (-1) := by unfold Bd; decide
    clean_wf
    refine wayN2 (fun z => ?_) (fun z => ?_)
    · refine ⟨fun σ' H2 => ∃ m' < m, ∃ (tf tm : Addr) (x1 x3 : Option V) (a b c p q r s : Int) (i k u : Nat), σ' = [some (.ref tf), x1, some (.ref tm), x3] ∧ Same H H2 ∧ SqT K H2 tf [.int a, .int b, .int c] ∧ SqT K H2 tm [.int p, .int q, .int r, .int s] ∧ RdD E a0 b0 c0 a b c p q r s ∧
        Bd (24 * i + u + 1) p ∧ Bd (24 * i + u + 1) q ∧ Bd (24 * i + u + 1) r ∧ Bd (24 * i + u + 1) s ∧ u ≤ 20 ∧ (u = 0 ∨ (-a < b ∧ b ≤ a)) ∧ Ms a b c i k m', fun σ' H2 h => h, ?_⟩
      clean_wf
      refine ⟨tf, a, b, c, rfl, sf, a0', g1, g2, ?_⟩
      obtain ⟨v1, v2, v3⟩ := nD_spec (b := b) a0'
      by_cases w : nD a b = 0
      · refine .inr ⟨w, ?_⟩
        obtain ⟨n1, n2⟩ := v3.mp w
        have hca : c ≤ a := by
          by_cases x : c ≤ a
          · exact x
          · exact absurd ⟨n1, n2, by omega, .inr (by omega)⟩ z
        have R2 := RI.sw (by omega)
        obtain ⟨m', hlt, hms⟩ := hm.sw F z n1 n2 hca
        obtain ⟨ga, gb, gc⟩ := act_sw a b c
        clean_wf
        refine ⟨m', hlt, _, _, _, _, c, -b, a, p * 0 + q * 1, p * (-1) + q * 0, r * 0 + s * 1, r * (-1) + s * 0, i + 1, _, 0, rfl, ?_, ?_, ?_, R2, ((e1.mul y0).add (e2.mul y1)).mono (by omega), ((e1.mul ym).add (e2.mul y0)).mono (by omega), ((e3.mul y0).add (e4.mul y1)).mono (by omega), ((e3.mul ym).add (e4.mul y0)).mono (by omega), by decide, .inl rfl, hms.choose_spec⟩
        · array_mem_dec
        · have h : ∀ t, SqT K HN t [.int (a * 0 * 0 + b * 0 * 1 + c * 1 * 1), .int (2 * a * 0 * (-1) + b * (0 * 0 + (-1) * 1) + 2 * c * 1 * 0), .int (a * (-1) * (-1) + b * (-1) * 0 + c * 0 * 0)] → SqT K HN t [.int c, .int (-b), .int a] := by
            intro t h
            rw [ga, gb, gc] at h
            exact h
          refine h _ ?_
          simp_wf
        · simp_wf
      · refine .inl ⟨w, ?_⟩
        have hu0 : u = 0 := by
          rcases hun with h | h
          · exact h
          · exact absurd (v3.mpr h) w
        subst hu0
        generalize hn : nD a b = n at *
        have cl := (F.tr n).c_le v1 v2
        have hns : n.natAbs ≤ 1099511627776 := by
          have e : ((2 * a * n).natAbs : Int) = 2 * (a * (n.natAbs : Int)) := by
            rw [Int.mul_assoc, Int.natAbs_mul, Int.natAbs_mul, show a.natAbs = a.toNat by omega]
            rw [show ((2 : Int).natAbs * (a.toNat * n.natAbs) : Nat) = 2 * (a.toNat * n.natAbs) from rfl]
            rw [Int.natCast_mul, Int.natCast_mul, Int.toNat_of_nonneg (by omega)]
            rfl
          have t := Int.mul_le_mul_of_nonneg_right (show 1 ≤ a by omega) (show 0 ≤ (n.natAbs : Int) by omega)
          omega
        have bn : Bd 41 n := Bd.of hns (by decide)
        have R2 := RI.tr (n := n) (by omega) (by omega)
        obtain ⟨m', hlt, hms⟩ := hm.tr (c' := a * n * n + b * n + c) z (fun h => w (v3.mpr h)) v1 v2
        obtain ⟨ga, gb, gc⟩ := act_tr a b c n
        clean_wf
        refine ⟨m', hlt, _, _, _, _, a, b + 2 * a * n, a * n * n + b * n + c, p * 1 + q * 0, p * n + q * 1, r * 1 + s * 0, r * n + s * 1, i + 1, k, 20, rfl, ?_, ?_, ?_, R2, ((e1.mul y1).add (e2.mul y0)).mono (by omega), ((e1.mul bn).add (e2.mul y1)).mono (by omega), ((e3.mul y1).add (e4.mul y0)).mono (by omega), ((e3.mul bn).add (e4.mul y1)).mono (by omega), by decide, .inr ⟨v1, v2⟩, hms⟩
        · array_mem_dec
        · have h : ∀ t, SqT K HN t [.int (a * 1 * 1 + b * 1 * 0 + c * 0 * 0), .int (2 * a * 1 * n + b * (1 * 1 + n * 0) + 2 * c * 0 * 1), .int (a * n * n + b * n * 1 + c * 1 * 1)] → SqT K HN t [.int a, .int (b + 2 * a * n), .int (a * n * n + b * n + c)] := by
            intro t h
            rw [ga, gb, gc] at h
            exact h
          refine h _ ?_
          simp_wf
        · simp_wf
    · have hi : i ≤ 283 := by
        rcases hm with ⟨_, _, h⟩ | ⟨h, _⟩
        · exact h
        · exact absurd z h
      clean_wf
      exact kk _ _ tf tm a b c p q r s (sm.trans sn) ht (same_seqT sn sf) (same_seqT sn st) RI z (e1.mono (by omega)) (e2.mono (by omega)) (e3.mono (by omega)) (e4.mono (by omega))
def spRdN (K : PySem.W.Frag) : Sp := fun vs H Q _ => ∃ (af : Addr) (a b c E : Int), vs = [.ref af] ∧ SqT K H af [.int a, .int b, .int c] ∧ PF E (-a) (-b) (-c) ∧ -a ≤ 274877906944 ∧ (b.natAbs : Int) ≤ 274877906944 ∧ -c ≤ 274877906944 ∧
  ∀ H' t tf tm a' b' c' p q r s, Same H H' → H' t = some (.tup [.ref tf, .ref tm]) → SqT K H' tf [.int a', .int b', .int c'] → SqT K H' tm [.int p, .int q, .int r, .int s] → RdD E (-a) (-b) (-c) (-a') (-b') (-c') p q r s → RedD (-a') (-b') (-c') → Bd 8000 p → Bd 8000 q → Bd 8000 r → Bd 8000 s → Q (.ref t) H'
theorem okRdN (T : Txt K mg fa fd) : FnOk P w K mg base CX0 4 (fa 23) (fd 23) ["form"] (spRdN K) := by
  refine T.F_reduce_definite.ok scReduceDefinite (fun vs H Q E h => ?_) (fun cdv A outer s0 H vs Q E0' hr h => ?_)
  · obtain ⟨af, a, b, c, E, rfl, _⟩ := h
    rfl
  · obtain ⟨af, a0, b0, c0, E, rfl, hs, F0, h1, h2, h3, kk⟩ := h
    refine ⟨_, (pss_cons (ps_if (pt_cmp (pc_lt (pe_ix (ixT K) (pv 0) pe_int (fun _ _ => rfl)) pe_int))
(pss_cons (ps_asg (pe_call (sp := spRd0 K) (okRd0 T) hr (by rfl) T.G_reduce_definite T.F_reduce_definite.kp T.B_reduce_definite .nil pass0 (pa_cons (pe_call (sp := spScaled K) (okScaled T) (hr.mono (by decide)) (by rfl) T.G_scaled T.F_scaled.kp T.B_scaled .nil pass0 (pa_cons (pv 0) (pa_cons (pe_un un_neg pe_int) pa_nil))) pa_nil)) (pgT K 2 (by rfl) (pgs_cons (pg_name (i := 1) scReduceDefinite.nd rfl (Or.inl rfl)) (pgs_cons (pg_name (i := 2) scReduceDefinite.nd rfl (Or.inl rfl)) pgs_nil))))
        (pss_one (ps_ret (pe_tup (pa_cons (pe_call (sp := spScaled K) (okScaled T) (hr.mono (by decide)) (by rfl) T.G_scaled T.F_scaled.kp T.B_scaled .nil pass0 (pa_cons (pv 1) (pa_cons (pe_un un_neg pe_int) pa_nil))) (pa_cons (pv 2) pa_nil))))))
pss_nil) (pss_cons ps_never (pss_cons ps_never (pss_one ps_never)))), ?_⟩
    have fa0 := F0.a0
    have fc0 := F0.c0
    have g1 : Bd 60 a0 := Bd.om (by omega)
    have g2 : Bd 60 b0 := Bd.om (by omega)
    have g3 : Bd 60 c0 := Bd.om (by omega)
    have e1 : a0 * -1 = -a0 := by omega
    have e2 : b0 * -1 = -b0 := by omega
    have e3 : c0 * -1 = -c0 := by omega
    clean_wf
    refine wayT (by omega) ?_
    clean_wf
    rw [e1, e2, e3] at ht
    refine ⟨tn, -a0, -b0, -c0, E, rfl, SqT.of ht, F0, h1, by omega, h3, ?_⟩
    intro H' t tf tm a' b' c' p q r s sm htt sf st RI hred n1 n2 n3 n4
    have k1 := RI.ba
    have k2 := RI.bb
    have k3 := RI.bc
    have k4 := RI.F.a0
    have k5 := RI.F.c0
    have l1 : Bd 60 a' := Bd.om (by omega)
    have l2 : Bd 60 b' := Bd.om (by omega)
    have l3 : Bd 60 c' := Bd.om (by omega)
    clean_wf
    refine kk _ tn _ tm (a' * -1) (b' * -1) (c' * -1) p q r s ?_ ht ?_ ?_ ?_ ?_ n1 n2 n3 n4
    · array_mem_dec
    · simp_wf
    · simp_wf
    · rw [show -(a' * -1) = a' by omega, show -(b' * -1) = b' by omega, show -(c' * -1) = c' by omega]
      exact RI
    · rw [show -(a' * -1) = a' by omega, show -(b' * -1) = b' by omega, show -(c' * -1) = c' by omega]
      exact hred
def spReduceDefinite (K : PySem.W.Frag) : Sp := fun vs H Q _ => ∃ (af : Addr) (a b c E g : Int), vs = [.ref af] ∧ SqT K H af [.int a, .int b, .int c] ∧ ((g = 1 ∧ 0 < a) ∨ (g = -1 ∧ a < 0)) ∧ PF E (g * a) (g * b) (g * c) ∧ (a.natAbs : Int) ≤ 274877906944 ∧ (b.natAbs : Int) ≤ 274877906944 ∧ (c.natAbs : Int) ≤ 274877906944 ∧
  ∀ H' t tf tm a' b' c' p q r s, Same H H' → H' t = some (.tup [.ref tf, .ref tm]) → SqT K H' tf [.int a', .int b', .int c'] → SqT K H' tm [.int p, .int q, .int r, .int s] → RdD E (g * a) (g * b) (g * c) (g * a') (g * b') (g * c') p q r s → RedD (g * a') (g * b') (g * c') → Bd 8000 p → Bd 8000 q → Bd 8000 r → Bd 8000 s → Q (.ref t) H'
theorem okReduceDefinite (T : Txt K mg fa fd) : FnOk P w K mg base CX0 9 (fa 23) (fd 23) ["form"] (spReduceDefinite K) := by
  have F0 := (okRd0 (P := P) (w := w) (base := base) T).mono (k := 9) (by decide)
  have F1 := (okRdN (P := P) (w := w) (base := base) T).mono (k := 9) (by decide)
  have key : ∀ vs H Q E, spReduceDefinite K vs H Q E → spRd0 K vs H Q E ∨ spRdN K vs H Q E := by
    rintro vs H Q E0' ⟨af, a, b, c, E, g, e, hs, hg, F, h1, h2, h3, kk⟩
    rcases hg with ⟨rfl, hg⟩ | ⟨rfl, hg⟩
    · left
      rw [Int.one_mul, Int.one_mul, Int.one_mul] at F
      refine ⟨af, a, b, c, E, e, hs, F, by omega, h2, by omega, fun H' t tf tm a' b' c' p q r s x1 x2 x3 x4 x5 x6 x7 x8 x9 x10 => kk H' t tf tm a' b' c' p q r s x1 x2 x3 x4 ?_ ?_ x7 x8 x9 x10⟩
      · rw [Int.one_mul, Int.one_mul, Int.one_mul, Int.one_mul, Int.one_mul, Int.one_mul]
        exact x5
      · rw [Int.one_mul, Int.one_mul, Int.one_mul]
        exact x6
    · right
      have e1 : ∀ x : Int, -1 * x = -x := fun x => by omega
      rw [e1, e1, e1] at F
      refine ⟨af, a, b, c, E, e, hs, F, by omega, h2, by omega, fun H' t tf tm a' b' c' p q r s x1 x2 x3 x4 x5 x6 x7 x8 x9 x10 => kk H' t tf tm a' b' c' p q r s x1 x2 x3 x4 ?_ ?_ x7 x8 x9 x10⟩
      · rw [e1, e1, e1, e1, e1, e1]
        exact x5
      · rw [e1, e1, e1]
        exact x6
  exact ⟨fun vs H Q E h => (key vs H Q E h).elim (F0.len vs H Q E) (F1.len vs H Q E), fun A outer s H args us vs Q E hr he hb hv h => (key vs H Q E h).elim (F0.run A outer s H args us vs Q E hr he hb hv) (F1.run A outer s H args us vs Q E hr he hb hv)⟩
def spPositiveClasses (K : PySem.W.Frag) : Sp := fun vs H Q _ => ∃ d : Int, vs = [.int d] ∧ d < 0 ∧ -2000 ≤ d ∧
  ∀ H' l ys, Same H H' → H l = none → H' l = some (.lst ys) → Tps K H' ys (clsC d (manyC d)) → Q (.ref l) H'
theorem uPositiveClasses {K : PySem.W.Frag} {H : Hp} {Q : VK} {E : XK} {vs : List V} {d : Int} (e : vs = [.int d]) (h0 : d < 0) (h1 : -2000 ≤ d) (kk : ∀ H' l ys, Same H H' → H l = none → H' l = some (.lst ys) → Tps K H' ys (clsC d (manyC d)) → Q (.ref l) H') : spPositiveClasses K vs H Q E := ⟨d, e, h0, h1, kk⟩
theorem okPositiveClasses (T : Txt K mg fa fd) : FnOk P w K mg base CX0 3 (fa 25) (fd 25) ["d"] (spPositiveClasses K) := by
  refine T.F_positive_classes.ok scPositiveClasses (fun vs H Q E h => ?_) (fun cdv A outer s H vs Q E hr h => ?_)
  · obtain ⟨d, rfl, d0, d1, kk⟩ := h
    rfl
  · obtain ⟨d, rfl, d0, d1, kk⟩ := h
    refine ⟨_, (pss_cons (ps_set (i := 1) scPositiveClasses.nd rfl (Or.inl rfl) (pe_lst pa_nil))
      (pss_cons (ps_for PassesOwn.never rfl (pi_range2 (by rfl) T.m_range (pa_cons pe_int (pa_cons (pe_op op_add (pe_call (sp := spFloorRoot K) (okFloorRoot T) (hr.mono (by decide)) (by rfl) T.G_floor_root T.F_floor_root.kp T.B_floor_root .nil pass0 (pa_cons (pe_op op_fdiv (pe_un un_neg (pv 0)) pe_int) pa_nil)) pe_int) pa_nil))) (pg_name (i := 2) scPositiveClasses.nd rfl (Or.inl rfl))
      (pss_one (ps_for PassesOwn.never rfl (pi_range2 (by rfl) T.m_range (pa_cons (pe_op op_sub pe_int (pv 2)) (pa_cons (pe_op op_add (pv 2) pe_int) pa_nil))) (pg_name (i := 3) scPositiveClasses.nd rfl (Or.inl rfl))
        (pss_one (ps_if (pt_cmp (pc_eqI (pe_op op_mod (pe_op op_sub (pe_op op_mulW (pv 3) (pv 3)) (pv 0)) (pe_op op_mulW pe_int (pv 2))) pe_int))
          (pss_cons (ps_set (i := 4) scPositiveClasses.nd rfl (Or.inl rfl) (pe_tup (pa_cons (pv 2) (pa_cons (pv 3) (pa_cons (pe_op op_fdiv (pe_op op_sub (pe_op op_mulW (pv 3) (pv 3)) (pv 0)) (pe_op op_mulW pe_int (pv 2))) pa_nil)))))
            (pss_one (ps_if (PW.pt (pw_and (pt_val (pe_call (sp := spIsReducedDefinite K) (okIsReducedDefinite T) (hr.mono (by decide)) (by rfl) T.G_is_reduced_definite T.F_is_reduced_definite.kp T.B_is_reduced_definite .nil pass0 (pa_cons (pv 4) pa_nil))) (pw_and1 (pt_cmp (pc_eqI (pe_call (sp := spContent K) (okContent T) hr (by rfl) T.G_content T.F_content.kp T.B_content .nil pass0 (pa_cons (pv 4) pa_nil)) pe_int)))))
            (pss_one (ps_expr (pe_bm PySem.F.plainAttrs_list PySem.F.slot_list_append PySem.F.type_list_append mt_append (pv 1) (pa_cons (pv 4) pa_nil))))
            pss_nil)))
          pss_nil)))))
      (pss_one (ps_ret (pv 1))))), ?_⟩
    have q0 : 0 ≤ (-d) / 3 := by omega
    obtain ⟨r0, r1, r2⟩ := rootI_spec q0
    have r3 : rootI ((-d) / 3) ≤ 26 := by
      by_cases z : rootI ((-d) / 3) ≤ 26
      · exact z
      · have := Int.mul_le_mul (show 27 ≤ rootI ((-d) / 3) by omega) (show 27 ≤ rootI ((-d) / 3) by omega) (by omega) (by omega)
        omega
    have bq : ((-d) / 3).natAbs < 1152921504606846976 := by omega
    have bd : Bd 60 d := Bd.om (by omega)
    have hM : manyC d = (rootI ((-d) / 3) + 1 - 1).toNat := by
      unfold manyC
      congr 1
      omega
    clean_wf
    rw [hM] at kk
    generalize hR : rootI ((-d) / 3) = R0 at *
    have hl := ht
    have nD := nn
    have s1 := sn
    clear sn ht nn
    generalize tn = tF at *
    generalize HN = H1 at *
    refine R.forN (lo := 1) (n := (R0 + 1 - 1).toNat) (fun i σ H' => ∃ (x2 x3 x4 : Option V) (ys : List V), σ = [some (.int d), some (.ref tF), x2, x3, x4] ∧ Same H H' ∧ H' tF = some (.lst ys) ∧ Tps K H' ys (clsC d i))
      ⟨_, _, _, [], rfl, s1, hl, .nil⟩ (fun i σ H' hi hPv => ?_) (fun σ H' hPv => ?_)
    · obtain ⟨x2, x3, x4, ys, rfl, sm, hl, tp⟩ := hPv
      have hi26 : i ≤ 25 := by omega
      rw [clsC_succ]
      have hw : (1 + (i : Int) + 1 - (1 - (1 + (i : Int)))).toNat = 2 * (i + 1) := by omega
      have a1 : 1 ≤ 1 + (i : Int) := by omega
      have a2 : 1 + (i : Int) ≤ 26 := by omega
      generalize 1 + (i : Int) = a at *
      have ba : Bd 60 a := Bd.om (by omega)
      clean_wf
      have hcl := clsC_len d i
      have hc2 : i * (i + 1) ≤ 25 * 26 := Nat.mul_le_mul hi26 (by omega)
      rw [hw]
      refine R.forN (lo := 1 - a) (n := 2 * (i + 1)) (fun j σ H' => ∃ (x3 x4 : Option V) (ys : List V), σ = [some (.int d), some (.ref tF), some (.int a), x3, x4] ∧ Same H H' ∧ H' tF = some (.lst ys) ∧ Tps K H' ys (clsC d i ++ rowC d a j))
        ⟨_, _, ys, rfl, sm, hl, by rw [show rowC d a 0 = [] from rfl, List.append_nil]; exact tp⟩ (fun j σ H' hj hPv => ?_) (fun σ H' hPv => ?_)
      · obtain ⟨x3, x4, ys, rfl, sm, hl, tp⟩ := hPv
        rw [rowC_succ, ← List.append_assoc]
        have hlen := tp.len
        rw [List.length_append] at hlen
        have hrl := rowC_len d a j
        have b1 : -26 ≤ 1 - a + (j : Int) := by omega
        have b2 : 1 - a + (j : Int) ≤ 26 := by omega
        generalize 1 - a + (j : Int) = b at *
        have bb : Bd 60 b := Bd.om (by omega)
        have cd9 : CDiv (b * b - d) (4 * a) := ⟨by omega, by omega⟩
        clean_wf
        refine way2 (fun z => ?_) (fun z => ?_)
        · skip
          clean_wf
          generalize hc : (b * b - d) / (4 * a) = c at *
          by_cases z2 : RedD a b c
          · rw [decide_eq_true z2]
            clean_wf
            by_cases z3 : gL [a, b, c] = 1
            · rw [decide_eq_true z3]
              have hcell : cellC d a b = [[a, b, c]] := by
                unfold cellC okC
                rw [hc, decide_eq_true z, decide_eq_true z2, decide_eq_true z3]
                rfl
              rw [hcell]
              clean_wf
              have hln := sn _ _ hl
              refine R.bmT hln ?_
              clean_wf
              refine R.app hln (by omega) (fun H5 e5 h5 => ?_)
              refine ⟨_, _, ys ++ [.ref tn], rfl, ?_, h5, ?_⟩
              · rw [e5]
                exact same_mut (sm.trans sn) nD
              · rw [e5]
                exact ((tp.same sn).kt fun c zs h => upd_seqT hln h).snoc (upd_seqT hln (SqT.of ht))
            · rw [decide_eq_false z3]
              have hcell : cellC d a b = [] := by
                unfold cellC okC
                rw [hc, decide_eq_true z, decide_eq_true z2, decide_eq_false z3]
                rfl
              rw [hcell, List.append_nil]
              clean_wf
              exact ⟨_, _, ys, rfl, sm.trans sn, sn _ _ hl, tp.same sn⟩
          · rw [decide_eq_false z2]
            have hcell : cellC d a b = [] := by
              unfold cellC okC
              rw [hc, decide_eq_true z, decide_eq_false z2]
              rfl
            rw [hcell, List.append_nil]
            clean_wf
            exact ⟨_, _, ys, rfl, sm.trans sn, sn _ _ hl, tp.same sn⟩
        · have hcell : cellC d a b = [] := by
            unfold cellC okC
            rw [decide_eq_false z]
            rfl
          rw [hcell, List.append_nil]
          clean_wf
          exact ⟨_, _, ys, rfl, sm, hl, tp⟩
      · obtain ⟨x3, x4, ys, rfl, sm, hl, tp⟩ := hPv
        exact ⟨_, _, _, ys, rfl, sm, hl, tp⟩
    · obtain ⟨x2, x3, x4, ys, rfl, sm, hl, tp⟩ := hPv
      clean_wf
      refine kk _ _ _ sm ?_ hl tp
      cases e : H tF with
      | none => rfl
      | some o =>
        rw [e] at nD
        cases nD
def spIsReducedIndefinite (K : PySem.W.Frag) : Sp := fun vs H Q _ => ∃ (af : Addr) (a b c D : Int), vs = [.ref af] ∧ SqT K H af [.int a, .int b, .int c] ∧ IF D a b c ∧ Bd 60 a ∧ Bd 60 b ∧ Bd 60 c ∧ Q (.bl (decide (RedI D a b))) H
theorem uIsReducedIndefinite {K : PySem.W.Frag} {H : Hp} {Q : VK} {E : XK} {vs : List V} {af : Addr} {a b c D : Int} (e : vs = [.ref af]) (hs : SqT K H af [.int a, .int b, .int c]) (F : IF D a b c) (b1 : Bd 60 a) (b2 : Bd 60 b) (b3 : Bd 60 c) (kk : Q (.bl (decide (RedI D a b))) H) : spIsReducedIndefinite K vs H Q E := ⟨af, a, b, c, D, e, hs, F, b1, b2, b3, kk⟩
theorem okIsReducedIndefinite (T : Txt K mg fa fd) : FnOk P w K mg base CX0 2 (fa 26) (fd 26) ["form"] (spIsReducedIndefinite K) := by
  refine T.F_is_reduced_indefinite.ok scIsReducedIndefinite (fun vs H Q E h => ?_) (fun cdv A outer s H vs Q E hr h => ?_)
  · obtain ⟨af, a, b, c, D, rfl, hs, F, b1, b2, b3, kk⟩ := h
    rfl
  · obtain ⟨af, a, b, c, D, rfl, hs, F, b1, b2, b3, kk⟩ := h
    refine ⟨_, (pss_cons (ps_asg (pv 0) (pgT K 3 (by rfl) (pgs_cons (pg_name (i := 1) scIsReducedIndefinite.nd rfl (Or.inl rfl)) (pgs_cons (pg_name (i := 2) scIsReducedIndefinite.nd rfl (Or.inl rfl)) (pgs_cons (pg_name (i := 3) scIsReducedIndefinite.nd rfl (Or.inl rfl)) pgs_nil)))))
      (pss_cons (ps_set (i := 4) scIsReducedIndefinite.nd rfl (Or.inl rfl) (pe_call (sp := spFloorRoot K) (okFloorRoot T) hr (by rfl) T.G_floor_root T.F_floor_root.kp T.B_floor_root .nil pass0 (pa_cons (pe_call (sp := spDiscriminant K) (okDiscriminant T) hr (by rfl) T.G_discriminant T.F_discriminant.kp T.B_discriminant .nil pass0 (pa_cons (pv 0) pa_nil)) pa_nil)))
      (pss_one (ps_ret (pe_and (pe_chain op_lt op_le pe_int (pv 2) (pv 4)) (pe_one (pe_chain op_le op_lt (pe_op op_sub (pe_op op_mulW pe_int (pe_callB (absQ K) (by rfl) T.m_abs (by decide +kernel) (pa_cons (pv 1) pa_nil))) (pv 2)) (pv 4) (pe_op op_add (pe_op op_mulW pe_int (pe_callB (absQ K) (by rfl) T.m_abs (by decide +kernel) (pa_cons (pv 1) pa_nil))) (pv 2))))))))), ?_⟩
    have hd : b * b - 4 * a * c = D := F.d
    have d0 := F.d0
    have d1 := F.d1
    obtain ⟨r0, r1, _⟩ := F.root
    have br : Bd 60 (rootI D) := Bd.om (by omega)
    clean_wf
    rw [hd]
    clean_wf
    refine way2 (fun z1 => ?_) (fun z1 => ?_)
    rotate_left
    · rw [decide_eq_false (fun h => z1 h.1)] at kk
      clean_wf
    clean_wf
    refine way2 (fun z2 => ?_) (fun z2 => ?_)
    rotate_left
    · rw [decide_eq_false (fun h => z2 h.2.1)] at kk
      clean_wf
    clean_wf
    refine way2 (fun z3 => ?_) (fun z3 => ?_)
    rotate_left
    · rw [decide_eq_false (fun h => z3 h.2.2.1)] at kk
      clean_wf
    clean_wf
    have e : decide (RedI D a b) = decide (rootI D < 2 * (a.natAbs : Int) + b) := decide_eq_decide.mpr ⟨fun h => h.2.2.2, fun h => ⟨z1, z2, z3, h⟩⟩
    rw [e] at kk
    clean_wf
def spStepOf (K : PySem.W.Frag) : Sp := fun vs H Q _ => ∃ (af : Addr) (a b c D : Int), vs = [.ref af] ∧ SqT K H af [.int a, .int b, .int c] ∧ IF D a b c ∧ Bd 60 a ∧ Bd 60 b ∧ Bd 60 c ∧ R.Nw H [.int 0, .int (-1), .int 1, .int (nN D b c)] Q
theorem uStepOf {K : PySem.W.Frag} {H : Hp} {Q : VK} {E : XK} {vs : List V} {af : Addr} {a b c D : Int} (e : vs = [.ref af]) (hs : SqT K H af [.int a, .int b, .int c]) (F : IF D a b c) (b1 : Bd 60 a) (b2 : Bd 60 b) (b3 : Bd 60 c) (kk : R.Nw H [.int 0, .int (-1), .int 1, .int (nN D b c)] Q) : spStepOf K vs H Q E := ⟨af, a, b, c, D, e, hs, F, b1, b2, b3, kk⟩
theorem okStepOf (T : Txt K mg fa fd) : FnOk P w K mg base CX0 2 (fa 29) (fd 29) ["form"] (spStepOf K) := by
  refine T.F_step_of.ok scStepOf (fun vs H Q E h => ?_) (fun cdv A outer s H vs Q E hr h => ?_)
  · obtain ⟨af, a, b, c, D, rfl, hs, F, b1, b2, b3, kk⟩ := h
    rfl
  · obtain ⟨af, a, b, c, D, rfl, hs, F, b1, b2, b3, kk⟩ := h
    refine ⟨_, (pss_cons (ps_asg (pv 0) (pgT K 3 (by rfl) (pgs_cons (pg_name (i := 1) scStepOf.nd rfl (Or.inl rfl)) (pgs_cons (pg_name (i := 2) scStepOf.nd rfl (Or.inl rfl)) (pgs_cons (pg_name (i := 3) scStepOf.nd rfl (Or.inl rfl)) pgs_nil)))))
      (pss_cons (ps_set (i := 4) scStepOf.nd rfl (Or.inl rfl) (pe_call (sp := spFloorRoot K) (okFloorRoot T) hr (by rfl) T.G_floor_root T.F_floor_root.kp T.B_floor_root .nil pass0 (pa_cons (pe_call (sp := spDiscriminant K) (okDiscriminant T) hr (by rfl) T.G_discriminant T.F_discriminant.kp T.B_discriminant .nil pass0 (pa_cons (pv 0) pa_nil)) pa_nil)))
      (pss_cons (ps_set (i := 5) scStepOf.nd rfl (Or.inl rfl) (pe_op op_sub (pv 4) (pe_op op_mod (pe_op op_add (pv 4) (pv 2)) (pe_op op_mulW pe_int (pe_callB (absQ K) (by rfl) T.m_abs (by decide +kernel) (pa_cons (pv 3) pa_nil))))))
      (pss_one (ps_ret (pe_tup (pa_cons pe_int (pa_cons (pe_un un_neg pe_int) (pa_cons pe_int (pa_cons (pe_op op_fdivX (pe_op op_add (pv 2) (pv 5)) (pe_op op_mulW pe_int (pv 3))) pa_nil)))))))))), ?_⟩
    have hd : b * b - 4 * a * c = D := F.d
    have d0 := F.d0
    have d1 := F.d1
    have c0 := F.c0
    obtain ⟨r0, r1, _⟩ := F.root
    have br : Bd 60 (rootI D) := Bd.om (by omega)
    rw [← hd] at kk
    clean_wf
    refine kk _ _ ?_ (by assumption)
    array_mem_dec
def spStepNear (K : PySem.W.Frag) : Sp := fun vs H Q _ => ∃ (af : Addr) (a b c D : Int), vs = [.ref af] ∧ SqT K H af [.int a, .int b, .int c] ∧ IF D a b c ∧ Bd 60 a ∧ Bd 60 b ∧ Bd 60 c ∧ R.Nw H [.int 0, .int (-1), .int 1, .int (if rootI D < (c.natAbs : Int) then nF b c else nN D b c)] Q
theorem uStepNear {K : PySem.W.Frag} {H : Hp} {Q : VK} {E : XK} {vs : List V} {af : Addr} {a b c D : Int} (e : vs = [.ref af]) (hs : SqT K H af [.int a, .int b, .int c]) (F : IF D a b c) (b1 : Bd 60 a) (b2 : Bd 60 b) (b3 : Bd 60 c) (kk : R.Nw H [.int 0, .int (-1), .int 1, .int (if rootI D < (c.natAbs : Int) then nF b c else nN D b c)] Q) : spStepNear K vs H Q E := ⟨af, a, b, c, D, e, hs, F, b1, b2, b3, kk⟩
theorem okStepNear (T : Txt K mg fa fd) : FnOk P w K mg base CX0 3 (fa 28) (fd 28) ["form"] (spStepNear K) := by
  refine T.F__step_near.ok scStepNear (fun vs H Q E h => ?_) (fun cdv A outer s H vs Q E hr h => ?_)
  · obtain ⟨af, a, b, c, D, rfl, hs, F, b1, b2, b3, kk⟩ := h
    rfl
  · obtain ⟨af, a, b, c, D, rfl, hs, F, b1, b2, b3, kk⟩ := h
    refine ⟨_, (pss_cons (ps_asg (pv 0) (pgT K 3 (by rfl) (pgs_cons (pg_name (i := 1) scStepNear.nd rfl (Or.inl rfl)) (pgs_cons (pg_name (i := 2) scStepNear.nd rfl (Or.inl rfl)) (pgs_cons (pg_name (i := 3) scStepNear.nd rfl (Or.inl rfl)) pgs_nil)))))
      (pss_cons (ps_if (pt_cmp (pc_gt (pe_callB (absQ K) (by rfl) T.m_abs (by decide +kernel) (pa_cons (pv 3) pa_nil)) (pe_call (sp := spFloorRoot K) (okFloorRoot T) (hr.mono (by decide)) (by rfl) T.G_floor_root T.F_floor_root.kp T.B_floor_root .nil pass0 (pa_cons (pe_call (sp := spDiscriminant K) (okDiscriminant T) (hr.mono (by decide)) (by rfl) T.G_discriminant T.F_discriminant.kp T.B_discriminant .nil pass0 (pa_cons (pv 0) pa_nil)) pa_nil))))
      (pss_one (ps_ret (pe_tup (pa_cons pe_int (pa_cons (pe_un un_neg pe_int) (pa_cons pe_int (pa_cons (pe_op op_mulW (pe_op op_fdivX (pe_op op_add (pv 2) (pe_callB (absQ K) (by rfl) T.m_abs (by decide +kernel) (pa_cons (pv 3) pa_nil))) (pe_op op_mulW pe_int (pe_callB (absQ K) (by rfl) T.m_abs (by decide +kernel) (pa_cons (pv 3) pa_nil)))) (pe_ifExp (pt_cmp (pc_gt (pv 3) pe_int)) pe_int (pe_un un_neg pe_int))) pa_nil)))))))
      pss_nil)
      (pss_one (ps_ret (pe_call (sp := spStepOf K) (okStepOf T) hr (by rfl) T.G_step_of T.F_step_of.kp T.B_step_of .nil pass0 (pa_cons (pv 0) pa_nil)))))), ?_⟩
    have hd : b * b - 4 * a * c = D := F.d
    have d0 := F.d0
    have d1 := F.d1
    have c0 := F.c0
    obtain ⟨r0, r1, _⟩ := F.root
    have br : Bd 60 (rootI D) := Bd.om (by omega)
    clean_wf
    rw [hd]
    clean_wf
    refine way2 (fun z => ?_) (fun z => ?_)
    · rw [if_pos z] at kk
      clean_wf
      refine way2 (fun y => ?_) (fun y => ?_)
      · have e : nF b c = (b + (c.natAbs : Int)).fdiv (2 * (c.natAbs : Int)) * 1 := by
          unfold nF
          rw [if_pos y]
        rw [e] at kk
        clean_wf
        exact kk _ _ sn ht
      · have e : nF b c = (b + (c.natAbs : Int)).fdiv (2 * (c.natAbs : Int)) * -1 := by
          unfold nF
          rw [if_neg y]
        rw [e] at kk
        clean_wf
        exact kk _ _ sn ht
    · rw [if_neg z] at kk
      clean_wf
/-- what reduce_indefinite gives -/
structure RdI (D a0 b0 c0 a b c p q r s : Int) : Prop where
  F : IF D a b c
  ea : a = fA a0 b0 c0 p r
  eb : b = fB a0 b0 c0 p q r s
  ec : c = fA a0 b0 c0 q s
  det : p * s - q * r = 1
  ba : (a.natAbs : Int) ≤ 1099511627776
  bb : (b.natAbs : Int) ≤ 1099511627776
  bc : (c.natAbs : Int) ≤ 1099511627776
def spReduceIndefinite (K : PySem.W.Frag) : Sp := fun vs H Q _ => ∃ (af : Addr) (a b c D : Int), vs = [.ref af] ∧ SqT K H af [.int a, .int b, .int c] ∧ IF D a b c ∧ (a.natAbs : Int) ≤ 1099511627776 ∧ (b.natAbs : Int) ≤ 1099511627776 ∧ (c.natAbs : Int) ≤ 1099511627776 ∧
  ∀ H' t tf tm a' b' c' p q r s, Same H H' → H' t = some (.tup [.ref tf, .ref tm]) → SqT K H' tf [.int a', .int b', .int c'] → SqT K H' tm [.int p, .int q, .int r, .int s] → RdI D a b c a' b' c' p q r s → RedI D a' b' → Bd 14100 p → Bd 14100 q → Bd 14100 r → Bd 14100 s → Q (.ref t) H'
theorem RdI.step {D a0 b0 c0 a b c p q r s n : Int} (h : RdI D a0 b0 c0 a b c p q r s) (b1 : ((-b + 2 * c * n).natAbs : Int) ≤ 1099511627776) (b2 : ((a - b * n + c * n * n).natAbs : Int) ≤ 1099511627776) :
    RdI D a0 b0 c0 c (-b + 2 * c * n) (a - b * n + c * n * n) (p * 0 + q * 1) (p * (-1) + q * n) (r * 0 + s * 1) (r * (-1) + s * n) := by
  obtain ⟨F, ea, eb, ec, det, ba, bb, bc⟩ := h
  refine ⟨F.go n, ?_, ?_, ?_, ?_, bc, b1, b2⟩
  · rw [← actA, ← ea, ← eb, ← ec]
    unfold fA
    grind
  · rw [← actB, ← ea, ← eb, ← ec]
    unfold fB
    grind
  · rw [← actA, ← ea, ← eb, ← ec]
    unfold fA
    grind
  · grind
theorem uReduceIndefinite {K : PySem.W.Frag} {H : Hp} {Q : VK} {E : XK} {vs : List V} {af : Addr} {a b c D : Int} (e : vs = [.ref af]) (hs : SqT K H af [.int a, .int b, .int c]) (F : IF D a b c) (b1 : (a.natAbs : Int) ≤ 1099511627776) (b2 : (b.natAbs : Int) ≤ 1099511627776) (b3 : (c.natAbs : Int) ≤ 1099511627776)
    (kk : ∀ H' t tf tm a' b' c' p q r s, Same H H' → H' t = some (.tup [.ref tf, .ref tm]) → SqT K H' tf [.int a', .int b', .int c'] → SqT K H' tm [.int p, .int q, .int r, .int s] → RdI D a b c a' b' c' p q r s → RedI D a' b' → Bd 14100 p → Bd 14100 q → Bd 14100 r → Bd 14100 s → Q (.ref t) H') : spReduceIndefinite K vs H Q E := ⟨af, a, b, c, D, e, hs, F, b1, b2, b3, kk⟩
theorem act_go (a b c n : Int) : a * 0 * 0 + b * 0 * 1 + c * 1 * 1 = c ∧ 2 * a * 0 * (-1) + b * (0 * n + (-1) * 1) + 2 * c * 1 * n = -b + 2 * c * n ∧ a * (-1) * (-1) + b * (-1) * n + c * n * n = a - b * n + c * n * n := by
  refine ⟨by omega, ?_, ?_⟩
  · grind
  · grind
theorem okReduceIndefinite (T : Txt K mg fa fd) : FnOk P w K mg base CX0 4 (fa 27) (fd 27) ["form"] (spReduceIndefinite K) := by
  refine T.F_reduce_indefinite.ok scReduceIndefinite (fun vs H Q E h => ?_) (fun cdv A outer s H vs Q E hr h => ?_)
  · obtain ⟨af, a0, b0, c0, D, rfl, hs, F0, b1, b2, b3, kk⟩ := h
    rfl
  · obtain ⟨af, a0, b0, c0, D, rfl, hs, F0, b1, b2, b3, kk⟩ := h
    refine ⟨_, (pss_cons (ps_set (i := 1) scReduceIndefinite.nd rfl (Or.inl rfl) (pe_glob (v := .ref (fa 60)) (by rfl) T.g_UNIT rfl))
      (pss_cons (ps_while PassesOwn.never (pt_not (pt_val (pe_call (sp := spIsReducedIndefinite K) (okIsReducedIndefinite T) (hr.mono (by decide)) (by rfl) T.G_is_reduced_indefinite T.F_is_reduced_indefinite.kp T.B_is_reduced_indefinite .nil pass0 (pa_cons (pv 0) pa_nil))))
      (pss_cons (ps_set (i := 2) scReduceIndefinite.nd rfl (Or.inl rfl) (pe_call (sp := spStepNear K) (okStepNear T) hr (by rfl) T.G__step_near T.F__step_near.kp T.B__step_near .nil pass0 (pa_cons (pv 0) pa_nil)))
        (pss_cons (ps_set (i := 0) scReduceIndefinite.nd rfl (Or.inl rfl) (pe_call (sp := spAct K) (okAct T) (hr.mono (by decide)) (by rfl) T.G_act T.F_act.kp T.B_act .nil pass0 (pa_cons (pv 0) (pa_cons (pv 2) pa_nil))))
        (pss_one (ps_set (i := 1) scReduceIndefinite.nd rfl (Or.inl rfl) (pe_call (sp := spMultiply K) (okMultiply T) (hr.mono (by decide)) (by rfl) T.G_multiply T.F_multiply.kp T.B_multiply .nil pass0 (pa_cons (pv 1) (pa_cons (pv 2) pa_nil))))))))
      (pss_one (ps_ret (pe_tup (pa_cons (pv 0) (pa_cons (pv 1) pa_nil))))))), ?_⟩
    have hU := fun H => T.S_UNIT H
    clean_wf
    refine ⟨fun m σ H' => ∃ (tf tm : Addr) (x2 : Option V) (a b c p q r s : Int) (i k : Nat), σ = [some (.ref tf), some (.ref tm), x2] ∧ Same H H' ∧ SqT K H' tf [.int a, .int b, .int c] ∧ SqT K H' tm [.int p, .int q, .int r, .int s] ∧ RdI D a0 b0 c0 a b c p q r s ∧
        Bd (70 * i + 1) p ∧ Bd (70 * i + 1) q ∧ Bd (70 * i + 1) r ∧ Bd (70 * i + 1) s ∧ ((RedI D a b ∧ m = 0 ∧ i ≤ 201) ∨ (¬ RedI D a b ∧ m = k + 1 ∧ i + k ≤ 200 ∧ Pt (rootI D) c k)), ?_, ?_⟩
    · have R0 : RdI D a0 b0 c0 a0 b0 c0 1 0 0 1 := ⟨F0, by unfold fA; omega, by unfold fB; omega, by unfold fA; omega, by decide, b1, b2, b3⟩
      by_cases z : RedI D a0 b0
      · exact ⟨0, _, _, _, a0, b0, c0, 1, 0, 0, 1, 0, 0, rfl, Same.refl _, by simp_wf, by simp_wf, R0, by unfold Bd; decide, by unfold Bd; decide, by unfold Bd; decide, by unfold Bd; decide, .inl ⟨z, rfl, by omega⟩⟩
      · refine ⟨142 + 1, _, _, _, a0, b0, c0, 1, 0, 0, 1, 0, 142, rfl, Same.refl _, by simp_wf, by simp_wf, R0, by unfold Bd; decide, by unfold Bd; decide, by unfold Bd; decide, by unfold Bd; decide, .inr ⟨z, rfl, by omega, ?_⟩⟩
        exact .inr ⟨41, rfl, by show c0.natAbs < 2199023255552; omega⟩
    rintro m σ H' ⟨tf, tm, x2, a, b, c, p, q, r, s, i, k, rfl, sm, sf, st, RI, e1, e2, e3, e4, hm⟩
    have F := RI.F
    have ba := RI.ba
    have bb := RI.bb
    have bc := RI.bc
    have g1 : Bd 60 a := Bd.om (by omega)
    have g2 : Bd 60 b := Bd.om (by omega)
    have g3 : Bd 60 c := Bd.om (by omega)
    clean_wf
    refine wayN2 (fun z => ?_) (fun z => ?_)
    · obtain ⟨hm, hik, hpt⟩ : m = k + 1 ∧ i + k ≤ 200 ∧ Pt (rootI D) c k := by
        rcases hm with ⟨h, _⟩ | ⟨_, h⟩
        · exact absurd h z
        · exact h
      obtain ⟨r0, r1, r2, r3⟩ := F.root
      have c0' := F.c0
      obtain ⟨v1, v2, v3⟩ := bN_spec (D := D) (b := b) c0'
      have w1 := nF_spec (b := b) c0'
      generalize hn : (if rootI D < (c.natAbs : Int) then nF b c else nN D b c) = n
      have hb : ((-b + 2 * c * n).natAbs : Int) ≤ 1099511627776 := by
        by_cases y : rootI D < (c.natAbs : Int)
        · rw [if_pos y] at hn
          rw [← hn]
          omega
        · rw [if_neg y] at hn
          rw [← hn, v3]
          omega
      have hns := n_size c0' bb hb
      have bn : Bd 60 n := Bd.om (by omega)
      have F2 := F.go n
      have next : ∃ k', (RedI D c (-b + 2 * c * n) ∧ k' = 0 ∨ ¬ RedI D c (-b + 2 * c * n) ∧ k' < k ∧ Pt (rootI D) (a - b * n + c * n * n) k') ∧ ((a - b * n + c * n * n).natAbs : Int) ≤ 1099511627776 := by
        by_cases y : rootI D < (c.natAbs : Int)
        · rw [if_pos y] at hn
          have f := F2.far y (by rw [← hn]; exact w1)
          obtain ⟨k', h1, h2⟩ := hpt.far r1 y f c0'
          by_cases x : RedI D c (-b + 2 * c * n)
          · exact ⟨0, .inl ⟨x, rfl⟩, by omega⟩
          · exact ⟨k', .inr ⟨x, h1, h2⟩, by omega⟩
        · rw [if_neg y] at hn
          have e : -b + 2 * c * n = bN D b c := by
            rw [← hn]
            exact v3
          have sq : (-b + 2 * c * n) * (-b + 2 * c * n) ≤ 10000 := by
            rw [e, ← sq_abs]
            exact Int.mul_le_mul (show ((bN D b c).natAbs : Int) ≤ 100 by omega) (show ((bN D b c).natAbs : Int) ≤ 100 by omega) (by omega) (by omega)
          have sm := F2.small sq
          rcases F2.near (by omega) (by rw [e]; exact v1) (by rw [e]; exact v2) with f | f
          · exact ⟨0, .inl ⟨f, rfl⟩, by omega⟩
          · obtain ⟨k', h1, h2⟩ := hpt.near r1 (by omega) f
            by_cases x : RedI D c (-b + 2 * c * n)
            · exact ⟨0, .inl ⟨x, rfl⟩, by omega⟩
            · exact ⟨k', .inr ⟨x, h1, h2⟩, by omega⟩
      obtain ⟨k', hk', hcc⟩ := next
      have R2 := RI.step hb hcc
      obtain ⟨ga, gb, gc⟩ := act_go a b c n
      refine ⟨fun σ' H2 => ∃ m' < m, ∃ (tf tm : Addr) (x2 : Option V) (a b c p q r s : Int) (i k : Nat), σ' = [some (.ref tf), some (.ref tm), x2] ∧ Same H H2 ∧ SqT K H2 tf [.int a, .int b, .int c] ∧ SqT K H2 tm [.int p, .int q, .int r, .int s] ∧ RdI D a0 b0 c0 a b c p q r s ∧
        Bd (70 * i + 1) p ∧ Bd (70 * i + 1) q ∧ Bd (70 * i + 1) r ∧ Bd (70 * i + 1) s ∧ ((RedI D a b ∧ m' = 0 ∧ i ≤ 201) ∨ (¬ RedI D a b ∧ m' = k + 1 ∧ i + k ≤ 200 ∧ Pt (rootI D) c k)), fun σ' H2 h => h, ?_⟩
      have hm2 : ∃ m', m' < m ∧ ((RedI D c (-b + 2 * c * n) ∧ m' = 0 ∧ i + 1 ≤ 201) ∨ (¬ RedI D c (-b + 2 * c * n) ∧ m' = k' + 1 ∧ i + 1 + k' ≤ 200 ∧ Pt (rootI D) (a - b * n + c * n * n) k')) := by
        rcases hk' with ⟨x, _⟩ | ⟨x, y, w⟩
        · exact ⟨0, by omega, .inl ⟨x, rfl, by omega⟩⟩
        · exact ⟨k' + 1, by omega, .inr ⟨x, rfl, by omega, w⟩⟩
      obtain ⟨m', hlt, hdis⟩ := hm2
      have y0 : Bd 1 0 := by unfold Bd; decide
      have y1 : Bd 1 1 := by unfold Bd; decide
      have ym : Bd 1 (-1) := by unfold Bd; decide
      clean_wf
      refine ⟨m', hlt, _, _, _, c, -b + 2 * c * n, a - b * n + c * n * n, p * 0 + q * 1, p * (-1) + q * n, r * 0 + s * 1, r * (-1) + s * n, i + 1, k', rfl, ?_, ?_, ?_, R2, ((e1.mul y0).add (e2.mul y1)).mono (by omega), ((e1.mul ym).add (e2.mul bn)).mono (by omega), ((e3.mul y0).add (e4.mul y1)).mono (by omega), ((e3.mul ym).add (e4.mul bn)).mono (by omega), hdis⟩
      · array_mem_dec
      · have h : ∀ t, SqT K HN t [.int (a * 0 * 0 + b * 0 * 1 + c * 1 * 1), .int (2 * a * 0 * (-1) + b * (0 * n + (-1) * 1) + 2 * c * 1 * n), .int (a * (-1) * (-1) + b * (-1) * n + c * n * n)] → SqT K HN t [.int c, .int (-b + 2 * c * n), .int (a - b * n + c * n * n)] := by
          intro t h
          rw [ga, gb, gc] at h
          exact h
        refine h _ ?_
        rw [← hn]
        simp_wf
      · rw [← hn]
        simp_wf
    · have hi : i ≤ 201 := by
        rcases hm with ⟨_, _, h⟩ | ⟨h, _⟩
        · exact h
        · exact absurd z h
      clean_wf
      exact kk _ _ tf tm a b c p q r s (sm.trans sn) ht (same_seqT sn sf) (same_seqT sn st) RI z (e1.mono (by omega)) (e2.mono (by omega)) (e3.mono (by omega)) (e4.mono (by omega))
def spCycle (K : PySem.W.Frag) : Sp := fun vs H Q _ => ∃ (af : Addr) (a b c D : Int) (k : Nat), vs = [.ref af] ∧ SqT K H af [.int a, .int b, .int c] ∧ IF D a b c ∧ RedI D a b ∧ Cyc D (a, b, c) (k + 1) ∧ k + 1 ≤ 1624 ∧
  ∀ H' l ys, Same H H' → H l = none → H' l = some (.lst ys) → Pps K H' ys (ringP D (a, b, c) (k + 1)) → Q (.ref l) H'
theorem uCycle {K : PySem.W.Frag} {H : Hp} {Q : VK} {E : XK} {vs : List V} {af : Addr} {a b c D : Int} {k : Nat} (e : vs = [.ref af]) (hs : SqT K H af [.int a, .int b, .int c]) (F : IF D a b c) (h1 : RedI D a b) (h2 : Cyc D (a, b, c) (k + 1)) (h3 : k + 1 ≤ 1624)
    (kk : ∀ H' l ys, Same H H' → H l = none → H' l = some (.lst ys) → Pps K H' ys (ringP D (a, b, c) (k + 1)) → Q (.ref l) H') : spCycle K vs H Q E := ⟨af, a, b, c, D, k, e, hs, F, h1, h2, h3, kk⟩
theorem okCycle (T : Txt K mg fa fd) : FnOk P w K mg base CX0 3 (fa 30) (fd 30) ["form"] (spCycle K) := by
  refine T.F_cycle.ok scCycle (fun vs H Q E h => ?_) (fun cdv A outer s H vs Q E hr h => ?_)
  · obtain ⟨af, a, b, c, D, k, rfl, hs, F, R0, cy, hk, kk⟩ := h
    rfl
  · obtain ⟨af, a, b, c, D, k, rfl, hs, F, R0, cy, hk, kk⟩ := h
    refine ⟨_, (pss_cons (ps_set (i := 1) scCycle.nd rfl (Or.inl rfl) (pe_lst (pa_cons (pe_tup (pa_cons (pv 0) (pa_cons (pe_glob (v := .ref (fa 60)) (by rfl) T.g_UNIT rfl) pa_nil))) pa_nil)))
      (pss_cons (ps_set (i := 2) scCycle.nd rfl (Or.inl rfl) (pe_call (sp := spStepOf K) (okStepOf T) hr (by rfl) T.G_step_of T.F_step_of.kp T.B_step_of .nil pass0 (pa_cons (pv 0) pa_nil)))
      (pss_cons (ps_par (i := 3) (j := 4) (by rfl) scCycle.nd rfl rfl (by decide) rfl rfl (pa_cons (pe_call (sp := spAct K) (okAct T) hr (by rfl) T.G_act T.F_act.kp T.B_act .nil pass0 (pa_cons (pv 0) (pa_cons (pv 2) pa_nil))) (pa_cons (pv 2) pa_nil)) (by rfl))
      (pss_cons (ps_while PassesOwn.never (pt_cmpR (neDQ K hr.units) (pv 3) (pv 0) (nomark _))
      (pss_cons (ps_expr (pe_bm PySem.F.plainAttrs_list PySem.F.slot_list_append PySem.F.type_list_append mt_append (pv 1) (pa_cons (pe_tup (pa_cons (pv 3) (pa_cons (pv 4) pa_nil))) pa_nil)))
        (pss_cons (ps_set (i := 2) scCycle.nd rfl (Or.inl rfl) (pe_call (sp := spStepOf K) (okStepOf T) hr (by rfl) T.G_step_of T.F_step_of.kp T.B_step_of .nil pass0 (pa_cons (pv 3) pa_nil)))
        (pss_one (ps_par (i := 3) (j := 4) (by rfl) scCycle.nd rfl rfl (by decide) rfl rfl (pa_cons (pe_call (sp := spAct K) (okAct T) hr (by rfl) T.G_act T.F_act.kp T.B_act .nil pass0 (pa_cons (pv 3) (pa_cons (pv 2) pa_nil))) (pa_cons (pe_call (sp := spMultiply K) (okMultiply T) (hr.mono (by decide)) (by rfl) T.G_multiply T.F_multiply.kp T.B_multiply .nil pass0 (pa_cons (pv 4) (pa_cons (pv 2) pa_nil))) pa_nil)) (by rfl))))))
      (pss_one (ps_ret (pv 1))))))), ?_⟩
    have hU := fun H => T.S_UNIT H
    obtain ⟨g1, g2, g3⟩ := red_bd F R0
    have hn1 := nK_small (D := D) (f := (a, b, c)) F R0
    have bn : Bd 10 (nN D b c) := Bd.of (m := 100) hn1 (by decide)
    clean_wf
    rename_i Ha ta sa na hta Hb tb sb htb Hc tc sc htc
    have nD : H tb = none := by
      cases e : H tb with
      | none => rfl
      | some o =>
        rw [sa _ _ e] at nn
        cases nn
    refine ⟨fun m σ H' => ∃ (ys : List V) (tst tot tmt : Addr) (i : Nat), σ = [some (.ref af), some (.ref tb), some (.ref tst), some (.ref tot), some (.ref tmt)] ∧ m = k - i ∧ i ≤ k ∧ Same H H' ∧ H' tb = some (.lst ys) ∧ Pps K H' ys (ringP D (a, b, c) (i + 1)) ∧
      SqT K H' tot ((fL (rhoN D (i + 1) (a, b, c))).map V.int) ∧ SqT K H' tmt ((mL (mN D (a, b, c) (i + 1))).map V.int), ?_, ?_⟩
    · refine ⟨k - 0, [.ref ta], tc, tn, tc, 0, rfl, rfl, Nat.zero_le _, by array_mem_dec, sn _ _ (sc _ _ htb), ?_, SqT.of ht, ?_⟩
      · rw [ringP_cons]
        exact .cons (f := fL (a, b, c)) (m := mL (1, 0, 0, 1)) (by simp_wf) (show SqT K HN af [V.int a, V.int b, V.int c] by simp_wf) (hU HN) .nil
      · rw [mN_one]
        show SqT K HN tc [V.int 0, V.int (-1), V.int 1, V.int (nN D b c)]
        simp_wf
    rintro m σ H' ⟨ys, tst, tot, tmt, i, rfl, hm, hi, sm, hl, pp, so, smt⟩
    have sf := same_seqT sm hs
    obtain ⟨Fi, Ri⟩ := rhoN_ok (f := (a, b, c)) (i + 1) F R0
    obtain ⟨_, _, mb⟩ := mN_ok (f := (a, b, c)) F R0 (i + 1)
    have nxt : rhoN D (i + 1 + 1) (a, b, c) = rho D (rhoN D (i + 1) (a, b, c)) := rhoN_succ D (i + 1) (a, b, c)
    have mnx : mN D (a, b, c) (i + 1 + 1) = mStep (mN D (a, b, c) (i + 1)) (nK D (rhoN D (i + 1) (a, b, c))) := rfl
    have last : i = k → rhoN D (i + 1) (a, b, c) = (a, b, c) := fun e => by
      rw [e]
      exact cy.back
    have other : i ≠ k → rhoN D (i + 1) (a, b, c) ≠ (a, b, c) := fun e => cy.first (i + 1) (by omega) (by omega)
    have hrp := ringP_snoc D (a, b, c) (i + 1)
    have hyl := pp.len
    rw [ringP_len] at hyl
    have hni := nK_small Fi Ri
    generalize mN D (a, b, c) (i + 1) = M at *
    generalize rhoN D (i + 1) (a, b, c) = g at *
    obtain ⟨x, y, z⟩ := g
    obtain ⟨m1, m2, m3, m4⟩ := M
    obtain ⟨e1, e2, e3, e4⟩ := mb
    have e1 := e1.mono (show 14 * (i + 1) + 1 ≤ 22800 by omega)
    have e2 := e2.mono (show 14 * (i + 1) + 1 ≤ 22800 by omega)
    have e3 := e3.mono (show 14 * (i + 1) + 1 ≤ 22800 by omega)
    have e4 := e4.mono (show 14 * (i + 1) + 1 ≤ 22800 by omega)
    have Fi : IF D x y z := Fi
    have Ri : RedI D x y := Ri
    obtain ⟨u1, u2, u3⟩ := red_bd Fi Ri
    have bi : Bd 10 (nN D y z) := Bd.of (m := 100) hni (by decide)
    change SqT K H' tot [V.int x, V.int y, V.int z] at so
    change SqT K H' tmt [V.int m1, V.int m2, V.int m3, V.int m4] at smt
    clean_wf
    refine wayN2 (fun hz => ?_) (fun hz => ?_)
    · have ik : i < k := by
        rcases Nat.lt_or_ge i k with h | h
        · exact h
        · have e := last (by omega)
          injection e with e1 e2
          injection e2 with e2 e3
          exact absurd ⟨e1, e2, e3⟩ hz
      refine ⟨fun σ' H2 => ∃ m' < m, ∃ (ys : List V) (tst tot tmt : Addr) (i : Nat), σ' = [some (.ref af), some (.ref tb), some (.ref tst), some (.ref tot), some (.ref tmt)] ∧ m' = k - i ∧ i ≤ k ∧ Same H H2 ∧ H2 tb = some (.lst ys) ∧ Pps K H2 ys (ringP D (a, b, c) (i + 1)) ∧
        SqT K H2 tot ((fL (rhoN D (i + 1) (a, b, c))).map V.int) ∧ SqT K H2 tmt ((mL (mN D (a, b, c) (i + 1))).map V.int), fun σ' H2 h => h, ?_⟩
      clean_wf
      have hln := sn _ _ hl
      refine R.app hln (by omega) (fun H5 e5 h5 => ?_)
      have s5 : KT K HN H5 := by
        rw [e5]
        exact kt_off hln
      have sm5 : Same H H5 := by
        rw [e5]
        exact same_mut (sm.trans sn) nD
      have so5 := s5 _ _ (same_seqT sn so)
      have smt5 := s5 _ _ (same_seqT sn smt)
      have pp5 : Pps K H5 (ys ++ [.ref tn]) (ringP D (a, b, c) (i + 1 + 1)) := by
        rw [hrp]
        exact ((pp.same sn).kt s5).snoc (s5 _ _ (SqT.of ht)) so5 smt5
      clear s5 pp so smt
      generalize tn = tq at *
      clean_wf
      rename_i H6 t6 s6 ht6 H7 t7 s7 ht7
      refine ⟨k - (i + 1), by omega, _, _, _, _, i + 1, rfl, rfl, by omega, by array_mem_dec, sn _ _ (s7 _ _ (s6 _ _ h5)), pp5.same (by array_mem_dec), ?_, ?_⟩
      · rw [nxt]
        exact same_seqT sn (SqT.of ht7)
      · rw [mnx]
        exact SqT.of ht
    · skip
      clean_wf
      have ik : i = k := by
        by_cases h : i = k
        · exact h
        · exact absurd (by rw [hz.1, hz.2.1, hz.2.2]) (other h)
      subst ik
      exact kk _ _ _ sm nD hl pp
def spCanonical (K : PySem.W.Frag) : Sp := fun vs H Q _ => ∃ (af : Addr) (a b c D : Int), vs = [.ref af] ∧ SqT K H af [.int a, .int b, .int c] ∧ IF D a b c ∧ (a.natAbs : Int) ≤ 1099511627776 ∧ (b.natAbs : Int) ≤ 1099511627776 ∧ (c.natAbs : Int) ≤ 1099511627776 ∧ D ≤ 3200 ∧
  ∀ H' t tf tm x y z p q r v, Same H H' → H' t = some (.tup [.ref tf, .ref tm]) → SqT K H' tf [.int x, .int y, .int z] → SqT K H' tm [.int p, .int q, .int r, .int v] → CanI D (a, b, c) (x, y, z) (p, q, r, v) → Q (.ref t) H'
theorem uCanonical {K : PySem.W.Frag} {H : Hp} {Q : VK} {E : XK} {vs : List V} {af : Addr} {a b c D : Int} (e : vs = [.ref af]) (hs : SqT K H af [.int a, .int b, .int c]) (F : IF D a b c) (b1 : (a.natAbs : Int) ≤ 1099511627776) (b2 : (b.natAbs : Int) ≤ 1099511627776) (b3 : (c.natAbs : Int) ≤ 1099511627776) (hD : D ≤ 3200)
    (kk : ∀ H' t tf tm x y z p q r v, Same H H' → H' t = some (.tup [.ref tf, .ref tm]) → SqT K H' tf [.int x, .int y, .int z] → SqT K H' tm [.int p, .int q, .int r, .int v] → CanI D (a, b, c) (x, y, z) (p, q, r, v) → Q (.ref t) H') : spCanonical K vs H Q E := ⟨af, a, b, c, D, e, hs, F, b1, b2, b3, hD, kk⟩
theorem okCanonical (T : Txt K mg fa fd) : FnOk P w K mg base CX0 5 (fa 31) (fd 31) ["form"] (spCanonical K) := by
  refine T.F_canonical.ok scCanonical (fun vs H Q E h => ?_) (fun cdv A outer s H vs Q E hr h => ?_)
  · obtain ⟨af, a, b, c, D, rfl, hs, F, b1, b2, b3, hD, kk⟩ := h
    rfl
  · obtain ⟨af, a, b, c, D, rfl, hs, F, b1, b2, b3, hD, kk⟩ := h
    refine ⟨_, (pss_cons (ps_asg (pe_call (sp := spReduceIndefinite K) (okReduceIndefinite T) hr (by rfl) T.G_reduce_indefinite T.F_reduce_indefinite.kp T.B_reduce_indefinite .nil pass0 (pa_cons (pv 0) pa_nil)) (pgT K 2 (by rfl) (pgs_cons (pg_name (i := 1) scCanonical.nd rfl (Or.inl rfl)) (pgs_cons (pg_name (i := 2) scCanonical.nd rfl (Or.inl rfl)) pgs_nil))))
      (pss_cons (ps_asg (pe_callB (minDQ K (PySem.W.Tup Int × PySem.W.Tup Int) rfl (room65 hr)) (by rfl) T.m_min (by decide +kernel) (pa_cons (pe_call (sp := spCycle K) (okCycle T) (hr.mono (by decide)) (by rfl) T.G_cycle T.F_cycle.kp T.B_cycle .nil pass0 (pa_cons (pv 1) pa_nil)) pa_nil)) (pgT K 2 (by rfl) (pgs_cons (pg_name (i := 3) scCanonical.nd rfl (Or.inl rfl)) (pgs_cons (pg_name (i := 4) scCanonical.nd rfl (Or.inl rfl)) pgs_nil))))
      (pss_one (ps_ret (pe_tup (pa_cons (pv 3) (pa_cons (pe_call (sp := spMultiply K) (okMultiply T) (hr.mono (by decide)) (by rfl) T.G_multiply T.F_multiply.kp T.B_multiply .nil pass0 (pa_cons (pv 2) (pa_cons (pv 4) pa_nil))) pa_nil))))))), ?_⟩
    clean_wf
    refine uReduceIndefinite rfl (by simp_wf) F b1 b2 b3 ?_
    intro H1 t tf tm a' b' c' p q r v sm1 ht1 sf1 st1 RI hred e1 e2 e3 e4
    have F' := RI.F
    obtain ⟨k, cy, hk⟩ := ring_ok (f := (a', b', c')) F' hred hD
    clean_wf
    intro H2 l ys sm2 nl hl pp
    clean_wf
    rw [ringP_cons] at pp
    refine R.minPps (SqL.of hl) pp ?_
    intro i x u v' f m hat sx su sv hmin
    rw [← ringP_cons] at hat
    obtain ⟨hi, e⟩ := ringP_at hat
    injection e with ef em
    obtain ⟨md, me, mb⟩ := mN_ok (f := (a', b', c')) F' hred i
    rw [ef] at su hmin
    rw [em] at sv
    clear hat ef em pp
    generalize mN D (a', b', c') i = M at *
    generalize rhoN D i (a', b', c') = g at *
    obtain ⟨X, Y, Z⟩ := g
    obtain ⟨m1, m2, m3, m4⟩ := M
    obtain ⟨f1, f2, f3, f4⟩ := mb
    have f1 := f1.mono (show 14 * i + 1 ≤ 22800 by omega)
    have f2 := f2.mono (show 14 * i + 1 ≤ 22800 by omega)
    have f3 := f3.mono (show 14 * i + 1 ≤ 22800 by omega)
    have f4 := f4.mono (show 14 * i + 1 ≤ 22800 by omega)
    change SqT K H2 u [V.int X, V.int Y, V.int Z] at su
    change SqT K H2 v' [V.int m1, V.int m2, V.int m3, V.int m4] at sv
    clean_wf
    refine kk _ _ _ _ X Y Z _ _ _ _ (by array_mem_dec) ht (by simp_wf) (by simp_wf) ⟨?_, ?_, ⟨((e1.mul f1).add (e2.mul f3)).mono (by decide), ((e1.mul f2).add (e2.mul f4)).mono (by decide), ((e3.mul f1).add (e4.mul f3)).mono (by decide), ((e3.mul f2).add (e4.mul f4)).mono (by decide)⟩, (a', b', c'), k, (p, q, r, v), F', hred, RI.det, ?_, cy, ?_⟩
    · have d1 : p * v - q * r = 1 := RI.det
      have d2 : m1 * m4 - m2 * m3 = 1 := md
      show (p * m1 + q * m3) * (r * m2 + v * m4) - (p * m2 + q * m4) * (r * m1 + v * m3) = 1
      have e6 : (p * m1 + q * m3) * (r * m2 + v * m4) - (p * m2 + q * m4) * (r * m1 + v * m3) = (p * v - q * r) * (m1 * m4 - m2 * m3) := by grind
      rw [e6, d1, d2]
      rfl
    · have e7 : (a', b', c') = actF (a, b, c) p q r v := fm_ext RI.ea RI.eb RI.ec
      rw [me, e7]
      exact actF_mul (a, b, c) p q r v m1 m2 m3 m4
    · exact fm_ext RI.ea RI.eb RI.ec
    · have e9 : ((List.range k).map fun i => (fL (rhoN D (i + 1) (a', b', c')), mL (mN D (a', b', c') (i + 1)))).map (·.1) = (List.range k).map fun i => fL (rhoN D (i + 1) (a', b', c')) := by
        rw [List.map_map]
        rfl
      rw [e9] at hmin
      exact hmin
def spDirected (K : PySem.W.Frag) : Sp := fun vs H Q _ => ∃ x y : Int, vs = [.int x, .int y] ∧ (x ≠ 0 ∨ y ≠ 0) ∧ Bd 60 x ∧ Bd 60 y ∧ ∀ x' y', Dir x y x' y' → x'.natAbs ≤ x.natAbs → y'.natAbs ≤ y.natAbs → R.Nw H [.int x', .int y'] Q
theorem uDirected {K : PySem.W.Frag} {H : Hp} {Q : VK} {E : XK} {vs : List V} {x y : Int} (e : vs = [.int x, .int y]) (h : x ≠ 0 ∨ y ≠ 0) (b1 : Bd 60 x) (b2 : Bd 60 y) (kk : ∀ x' y', Dir x y x' y' → x'.natAbs ≤ x.natAbs → y'.natAbs ≤ y.natAbs → R.Nw H [.int x', .int y'] Q) : spDirected K vs H Q E := ⟨x, y, e, h, b1, b2, kk⟩
theorem okDirected (T : Txt K mg fa fd) : FnOk P w K mg base CX0 2 (fa 33) (fd 33) ["x", "y"] (spDirected K) := by
  refine T.F_directed.ok scDirected (fun vs H Q E h => ?_) (fun cdv A outer s H vs Q E hr h => ?_)
  · obtain ⟨x, y, rfl, h, b1, b2, kk⟩ := h
    rfl
  · obtain ⟨x, y, rfl, h, b1, b2, kk⟩ := h
    refine ⟨_, (pss_cons (ps_set (i := 2) scDirected.nd rfl (Or.inl rfl) (pe_call (sp := spMeasure K) (okMeasure T) hr (by rfl) T.G_measure T.F_measure.kp T.B_measure .nil pass0 (pa_cons (pe_tup (pa_cons (pv 0) (pa_cons (pv 1) pa_nil))) pa_nil)))
      (C8.pss_cut (ps_if (PW.pt (pw_or (pt_cmp (pc_lt (pv 0) pe_int)) (pw_or1 (PW.pt (pw_and (pt_cmp (pc_eqI (pv 0) pe_int)) (pw_and1 (pt_cmp (pc_lt (pv 1) pe_int))))))))
      (pss_one (ps_set (i := 2) scDirected.nd rfl (Or.inl rfl) (pe_un un_neg (pv 2))))
      pss_nil)
      (pss_one (ps_ret (pe_tup (pa_cons (pe_op op_fdivX (pv 0) (pv 2)) (pa_cons (pe_op op_fdivX (pv 1) (pv 2)) pa_nil))))))), ?_⟩
    clean_wf
    refine uMeasureT rfl (SqT.of ht) ?_
    obtain ⟨G, hG⟩ : ∃ G, G = gL [x, y] := ⟨_, rfl⟩
    rw [← hG]
    rw [gL_two] at hG
    have bG : Bd 60 G := by
      have b1' : x.natAbs < 1152921504606846976 := b1
      have b2' : y.natAbs < 1152921504606846976 := b2
      refine Bd.om ?_
      rcases h with h | h
      · have := Nat.gcd_le_left y.natAbs (show 0 < x.natAbs by omega)
        omega
      · have := Nat.gcd_le_right x.natAbs (show 0 < y.natAbs by omega)
        omega
    clean_wf
    refine R.cut (Mid := fun σ H' => ∃ g : Int, σ = [some (.int x), some (.int y), some (.int g)] ∧ H' = HN ∧ g = if x < 0 ∨ (x = 0 ∧ y < 0) then -G else G) ?_ (fun σ H' hM => ?_)
    · skip
      clean_wf
      refine way2 (fun z => ?_) (fun z => ?_)
      · skip
        clean_wf
        exact ⟨_, rfl, rfl, by rw [if_pos (.inl z)]⟩
      clean_wf
      refine way2 (fun z2 => ?_) (fun z2 => ?_)
      · skip
        clean_wf
        refine way2 (fun z3 => ?_) (fun z3 => ?_)
        · skip
          clean_wf
          exact ⟨_, rfl, rfl, by rw [if_pos (.inr ⟨z2, z3⟩)]⟩
        · skip
          clean_wf
          exact ⟨_, rfl, rfl, by rw [if_neg (fun k => k.elim z (fun k => z3 k.2))]⟩
      · skip
        clean_wf
        exact ⟨_, rfl, rfl, by rw [if_neg (fun k => k.elim z (fun k => z2 k.1))]⟩
    · obtain ⟨g, rfl, rfl, hg⟩ := hM
      obtain ⟨g0, hd, l1, l2⟩ := dir_of h hG hg
      have bg : Bd 61 g := by
        rw [hg]
        split
        · exact bG.neg.mono (by decide)
        · exact bG.mono (by decide)
      have k2 := kk _ _ hd l1 l2
      clean_wf
      refine k2 _ _ ?_ ht
      array_mem_dec
def spZeroLines (K : PySem.W.Frag) : Sp := fun vs H Q _ => ∃ (af : Addr) (a b c k : Int), vs = [.ref af] ∧ SqT K H af [.int a, .int b, .int c] ∧ SF k a b c ∧ a.natAbs ≤ 1099511627776 ∧ b.natAbs ≤ 1099511627776 ∧ c.natAbs ≤ 1099511627776 ∧ k ≤ 4398046511104 ∧
  ∀ H' L t1 t2 x1 y1 x2 y2 z, Same H H' → H L = none → H' L = some (.lst [.ref t1, .ref t2]) → SqT K H' t1 [.int x1, .int y1] → SqT K H' t2 [.int x2, .int y2] → (z = k ∨ z = -k) → Pt2 a b c z x1 y1 → Pt2 a b c (-z) x2 y2 → Q (.ref L) H'
theorem uZeroLines {K : PySem.W.Frag} {H : Hp} {Q : VK} {E : XK} {vs : List V} {af : Addr} {a b c k : Int} (e : vs = [.ref af]) (hs : SqT K H af [.int a, .int b, .int c]) (F : SF k a b c) (b1 : a.natAbs ≤ 1099511627776) (b2 : b.natAbs ≤ 1099511627776) (b3 : c.natAbs ≤ 1099511627776) (b4 : k ≤ 4398046511104)
    (kk : ∀ H' L t1 t2 x1 y1 x2 y2 z, Same H H' → H L = none → H' L = some (.lst [.ref t1, .ref t2]) → SqT K H' t1 [.int x1, .int y1] → SqT K H' t2 [.int x2, .int y2] → (z = k ∨ z = -k) → Pt2 a b c z x1 y1 → Pt2 a b c (-z) x2 y2 → Q (.ref L) H') : spZeroLines K vs H Q E := ⟨af, a, b, c, k, e, hs, F, b1, b2, b3, b4, kk⟩
theorem okZeroLines (T : Txt K mg fa fd) : FnOk P w K mg base CX0 3 (fa 32) (fd 32) ["form"] (spZeroLines K) := by
  refine T.F_zero_lines.ok scZeroLines (fun vs H Q E h => ?_) (fun cdv A outer s H vs Q E hr h => ?_)
  · obtain ⟨af, a, b, c, k, rfl, hs, F, b1, b2, b3, b4, kk⟩ := h
    rfl
  · obtain ⟨af, a, b, c, k, rfl, hs, F, b1, b2, b3, b4, kk⟩ := h
    refine ⟨_, (pss_cons (ps_asg (pv 0) (pgT K 3 (by rfl) (pgs_cons (pg_name (i := 1) scZeroLines.nd rfl (Or.inl rfl)) (pgs_cons (pg_name (i := 2) scZeroLines.nd rfl (Or.inl rfl)) (pgs_cons (pg_name (i := 3) scZeroLines.nd rfl (Or.inl rfl)) pgs_nil)))))
      (pss_cons (ps_if (pt_cmp (pc_eqI (pv 1) pe_int))
      (pss_one (ps_ret (pe_lst (pa_cons (pe_tup (pa_cons pe_int (pa_cons pe_int pa_nil))) (pa_cons (pe_call (sp := spDirected K) (okDirected T) hr (by rfl) T.G_directed T.F_directed.kp T.B_directed .nil pass0 (pa_cons (pv 3) (pa_cons (pe_un un_neg (pv 2)) pa_nil))) pa_nil)))))
      pss_nil)
      (pss_cons (ps_set (i := 4) scZeroLines.nd rfl (Or.inl rfl) (pe_call (sp := spFloorRoot K) (okFloorRoot T) (hr.mono (by decide)) (by rfl) T.G_floor_root T.F_floor_root.kp T.B_floor_root .nil pass0 (pa_cons (pe_call (sp := spDiscriminant K) (okDiscriminant T) (hr.mono (by decide)) (by rfl) T.G_discriminant T.F_discriminant.kp T.B_discriminant .nil pass0 (pa_cons (pv 0) pa_nil)) pa_nil)))
      (pss_one (ps_ret (pe_lst (pa_cons (pe_call (sp := spDirected K) (okDirected T) hr (by rfl) T.G_directed T.F_directed.kp T.B_directed .nil pass0 (pa_cons (pe_op op_sub (pv 4) (pv 2)) (pa_cons (pe_op op_mulW pe_int (pv 1)) pa_nil))) (pa_cons (pe_call (sp := spDirected K) (okDirected T) hr (by rfl) T.G_directed T.F_directed.kp T.B_directed .nil pass0 (pa_cons (pe_op op_sub (pe_un un_neg (pv 4)) (pv 2)) (pa_cons (pe_op op_mulW pe_int (pv 1)) pa_nil))) pa_nil)))))))), ?_⟩
    have k0 := F.k0
    have hd : b * b - 4 * a * c = k * k := F.d
    have ga : Bd 41 a := Bd.of b1 (by decide)
    have gb : Bd 41 b := Bd.of b2 (by decide)
    have gc : Bd 41 c := Bd.of b3 (by decide)
    clean_wf
    refine way2 (fun z => ?_) (fun z => ?_)
    · subst z
      have kb : b * b = k * k := by omega
      have hb : b = k ∨ b = -k := by
        have e : (b - k) * (b + k) = 0 := by
          have : (b - k) * (b + k) = b * b - k * k := by grind
          omega
        rcases Int.mul_eq_zero.mp e with h | h
        · exact .inl (by omega)
        · exact .inr (by omega)
      have b0 : b ≠ 0 := by omega
      have gc6 : Bd 60 c := gc.mono (by decide)
      have gb6 : Bd 60 (-b) := gb.neg.mono (by decide)
      have hor : c ≠ 0 ∨ -b ≠ 0 := .inr (by omega)
      clean_wf
      intro x2 y2 hdr l1 l2
      clean_wf
      obtain ⟨⟨g, g0, e1, e2⟩, hg, hsg⟩ := hdr
      refine kk _ _ _ _ 1 0 x2 y2 b ?_ ?_ ht ?_ ?_ hb ⟨rfl, .inl (by decide), ⟨by omega, by omega⟩, by decide, by decide⟩ ⟨hg, hsg, Ln.of g0 ?_, Nat.le_trans l1 (by omega), Nat.le_trans l2 (by omega)⟩
      · array_mem_dec
      · refine Same.free ?_ nn
        array_mem_dec
      · simp_wf
      · simp_wf
      · rw [← e1, ← e2]
        exact ln0 b c
    · have hroot := F.root
      have gk : Bd 43 k := Bd.of (m := 4398046511104) (by omega) (by decide)
      have sq1 : 0 ≤ b * b - 4 * a * c := by
        rw [hd]
        exact Int.mul_nonneg (by omega) (by omega)
      have sq2 : b * b - 4 * a * c < 1000000000000000000000000000 := by
        rw [hd]
        exact Int.lt_of_le_of_lt (Int.mul_le_mul b4 b4 (by omega) (by decide)) (by decide)
      repeat' (first
        | with_reducible apply R.var
        | with_reducible apply R.gsE
        | ((with_reducible apply R.gsN); (focus exact rfl))
        | with_reducible apply R.lenS
        | ((with_reducible apply R.lenB); exact rfl)
        | ((with_reducible apply R.isEq); exact rfl)
        | with_reducible apply R.op
        | with_reducible apply R.i2
        | with_reducible apply R.i0
        | with_reducible apply R.con
        | with_reducible apply R.cons
        | with_reducible apply R.nil
        | ((with_reducible apply R.gBd); first | with_reducible assumption | with_reducible apply Bd.mul | with_reducible apply Bd.add | with_reducible apply Bd.sub | ((with_reducible apply Bd.l8); exact eq_true (by decide)) | ((with_reducible apply Bd.lit); exact eq_true (by decide)) | with_reducible apply Bd.neg | with_reducible apply Bd.div | with_reducible apply Bd.abs | with_reducible apply Bd.mod | with_reducible apply Bd.fdiv | ((with_reducible apply Bd.om); omega))
        | with_reducible apply Bd.mulW
        | ((with_reducible apply R.gSqT); first | with_reducible assumption | ((with_reducible apply SqT.of); with_reducible assumption) | ((with_reducible apply same_seqT); with_reducible assumption) | ((with_reducible apply kp_seqT); with_reducible assumption) | with_reducible apply hU)
        | ((with_reducible apply R.isLe); first | decide | omega)
        | with_reducible apply R.gcons
        | with_reducible apply R.gname
        | ((with_reducible apply R.ixT); (focus ((repeat' (first | with_reducible assumption | with_reducible apply hU | ((with_reducible apply SqT.of); with_reducible assumption) | ((with_reducible apply same_seqT); with_reducible assumption) | ((with_reducible apply kp_seqT); with_reducible assumption) | ((with_reducible apply Dw.same); with_reducible assumption))); done)); exact rfl)
        | ((with_reducible apply R.ixL); (focus ((repeat' (first | with_reducible assumption | ((with_reducible apply SqL.of); with_reducible assumption) | ((with_reducible apply Same.seq); with_reducible assumption) | ((with_reducible apply Kp.seqL); with_reducible assumption) | ((with_reducible apply fresh_ne); with_reducible assumption) | ((with_reducible apply Dw.same); with_reducible assumption))); done)); exact rfl)
        | with_reducible apply R.test
        | with_reducible apply R.tb'
        | with_reducible apply R.isbl
        | with_reducible apply R.cmp
        | with_reducible apply R.t2i
        | with_reducible apply R.intp
        | with_reducible apply R.ifs
        | with_reducible apply R.asg
        | with_reducible apply R.seq
        | with_reducible apply R.gtup
        | with_reducible apply R.u1
        | with_reducible apply R.un
        | with_reducible apply R.ret
        | with_reducible apply R.next
        | with_reducible apply R.call
        | with_reducible apply iteT
        | with_reducible apply iteF
        | with_reducible assumption
        | with_reducible apply R.tup
        | with_reducible apply R.lst
        | with_reducible apply R.callB
        | with_reducible apply R.gnil
        | with_reducible apply R.brk
        | with_reducible apply R.cont
        | with_reducible apply R.drop
        | with_reducible apply R.par
        | with_reducible apply R.par2
        | with_reducible apply R.par3
        | with_reducible apply R.par4
        | with_reducible apply R.tif
        | with_reducible apply R.and
        | with_reducible apply R.or
        | with_reducible apply R.not
        | with_reducible apply R.andV
        | with_reducible apply R.orV
        | with_reducible apply R.notV
        | with_reducible apply R.chain
        | with_reducible apply R.tupL
        | with_reducible apply R.lstL
        | with_reducible apply R.cat
        | with_reducible apply R.absI
        | with_reducible apply R.intI
        | with_reducible apply R.intB
        | with_reducible apply R.eqS
        | with_reducible apply R.eqBl
        | with_reducible apply R.neBl
        | with_reducible apply R.sl
        | with_reducible apply R.noPart
        | with_reducible apply R.part
        | with_reducible apply R.isInt
        | with_reducible apply R.slL
        | with_reducible apply R.isiT
        | with_reducible apply R.isiLst
        | with_reducible apply R.nwT
        | with_reducible apply R.nwL
        | ((with_reducible apply R.mt); intro HN tn sn nn ht)
        | ((with_reducible apply R.ml); intro HN tn sn nn ht)
        | ((with_reducible apply R.isiTupS); focus ((repeat' (first | with_reducible assumption | with_reducible apply hU | ((with_reducible apply SqT.of); with_reducible assumption) | ((with_reducible apply same_seqT); with_reducible assumption) | ((with_reducible apply kp_seqT); with_reducible assumption) | ((with_reducible apply Dw.same); with_reducible assumption))); done))
        | ((with_reducible apply R.ne4); focus ((repeat' (first | with_reducible assumption | with_reducible apply hU | ((with_reducible apply SqT.of); with_reducible assumption) | ((with_reducible apply same_seqT); with_reducible assumption) | ((with_reducible apply kp_seqT); with_reducible assumption) | ((with_reducible apply Dw.same); with_reducible assumption))); done))
        | ((with_reducible apply R.ne3); focus ((repeat' (first | with_reducible assumption | with_reducible apply hU | ((with_reducible apply SqT.of); with_reducible assumption) | ((with_reducible apply same_seqT); with_reducible assumption) | ((with_reducible apply kp_seqT); with_reducible assumption) | ((with_reducible apply Dw.same); with_reducible assumption))); done))
        | ((with_reducible apply R.ne2); focus ((repeat' (first | with_reducible assumption | with_reducible apply hU | ((with_reducible apply SqT.of); with_reducible assumption) | ((with_reducible apply same_seqT); with_reducible assumption) | ((with_reducible apply kp_seqT); with_reducible assumption) | ((with_reducible apply Dw.same); with_reducible assumption))); done))
        | ((with_reducible apply R.eq4); focus ((repeat' (first | with_reducible assumption | with_reducible apply hU | ((with_reducible apply SqT.of); with_reducible assumption) | ((with_reducible apply same_seqT); with_reducible assumption) | ((with_reducible apply kp_seqT); with_reducible assumption) | ((with_reducible apply Dw.same); with_reducible assumption))); done))
        | ((with_reducible apply R.eq3); focus ((repeat' (first | with_reducible assumption | with_reducible apply hU | ((with_reducible apply SqT.of); with_reducible assumption) | ((with_reducible apply same_seqT); with_reducible assumption) | ((with_reducible apply kp_seqT); with_reducible assumption) | ((with_reducible apply Dw.same); with_reducible assumption))); done))
        | ((with_reducible apply R.eq2); focus ((repeat' (first | with_reducible assumption | with_reducible apply hU | ((with_reducible apply SqT.of); with_reducible assumption) | ((with_reducible apply same_seqT); with_reducible assumption) | ((with_reducible apply kp_seqT); with_reducible assumption) | ((with_reducible apply Dw.same); with_reducible assumption))); done))
        | ((with_reducible apply R.nw); intro HN tn sn ht)
        | with_reducible apply R.notT
        | with_reducible apply R.notF
        | ((with_reducible apply SqL.of); with_reducible assumption)
        | ((with_reducible apply sameB); with_reducible assumption)
        | ((with_reducible apply same_at); with_reducible assumption)
        | ((with_reducible apply Same.seq); with_reducible assumption)
        | ((with_reducible apply Kp.seqL); with_reducible assumption)
        | ((with_reducible apply fresh_ne); with_reducible assumption)
        | ((with_reducible apply Dw.same); with_reducible assumption)
        | ((with_reducible apply R.isEq); exact eq_true (by first | decide | omega))
        | ((with_reducible apply R.isLt); first | decide | omega)
        | ((with_reducible apply R.isLtI); first | decide | omega)
        | ((with_reducible apply R.isLeI); first | decide | omega)
        | ((with_reducible apply R.cdiv); exact rfl)
        | ((with_reducible apply R.cpow); exact rfl)
        | with_reducible apply R.cdivX
        | ((with_reducible apply R.isNe); omega)
        | ((with_reducible apply wayNF); first | exact rfl | exact ⟨rfl, rfl⟩ | exact ⟨rfl, rfl, rfl⟩ | exact ⟨rfl, rfl, rfl, rfl⟩)
        | with_reducible apply R.bm
        | ((with_reducible apply R.bmT); (focus ((first | with_reducible assumption | ((with_reducible apply same_at); with_reducible assumption) | ((with_reducible apply kp_at); with_reducible assumption)); done)))
        | with_reducible apply R.dput
        | with_reducible apply R.dget
        | with_reducible apply R.din
        | with_reducible apply R.dget2
        | with_reducible apply R.forE
        | with_reducible apply R.rng1
        | with_reducible apply R.rng2
        | with_reducible apply R.rg1
        | with_reducible apply R.rg2
        | with_reducible apply R.lcE
        | with_reducible apply R.itup
        | with_reducible apply R.ilst
        | with_reducible apply uLawNext
        | with_reducible apply uLawChange
        | with_reducible apply uMultiply
        | with_reducible apply uDeterminant
        | with_reducible apply uNegative
        | with_reducible apply uLawMul
        | with_reducible apply uLawWorth
        | with_reducible apply uWorth
        | with_reducible apply uScaled
        | with_reducible apply uDiscriminant
        | with_reducible apply uInverse
        | with_reducible apply uAct
        | with_reducible apply uLawAct
        | with_reducible apply uScaled
        | with_reducible apply uLawSquare
        | with_reducible apply uLawRoot
        | with_reducible apply uIsReducedDefinite
        | with_reducible apply uStepDown
        | with_reducible apply uScaled
        | with_reducible apply uIsReducedIndefinite
        | with_reducible apply uStepOf
        | with_reducible apply uStepNear
        | with_reducible apply uDirected
        | with_reducible apply uCompleted
        | with_reducible apply uBezout
        | with_reducible apply uDiscriminant
        | with_reducible apply uContent
        | with_reducible apply uFlatParts
        | with_reducible apply uCycle
        | with_reducible apply uKind
        | with_reducible apply uIsSquare
        | fail
        )
      refine ⟨b * b - 4 * a * c, rfl, sq1, ?_, ?_⟩
      · exact pow_up (a := 100) (by show (b * b - 4 * a * c).natAbs < 1267650600228229401496703205376; omega) (by decide)
      rw [hroot]
      have c1 : (k - b).natAbs ≤ 35184372088832 := by omega
      have c2 : (2 * a).natAbs ≤ 35184372088832 := by omega
      have c3 : (-k - b).natAbs ≤ 35184372088832 := by omega
      have o1 : k - b ≠ 0 ∨ 2 * a ≠ 0 := .inr (by omega)
      have o2 : -k - b ≠ 0 ∨ 2 * a ≠ 0 := .inr (by omega)
      have g1 : Bd 60 (k - b) := (gk.sub gb).mono (by decide)
      have g2 : Bd 60 (-k - b) := (gk.neg.sub gb).mono (by decide)
      have g3 : Bd 60 (2 * a) := Bd.om (by omega)
      clean_wf
      intro x1 y1 hd1 l1 l2
      clean_wf
      intro x2 y2 hd2 l3 l4
      clean_wf
      obtain ⟨⟨g, g0, e1, e2⟩, hg, hsg⟩ := hd1
      obtain ⟨⟨g', g0', e1', e2'⟩, hg', hsg'⟩ := hd2
      refine kk _ _ _ _ x1 y1 x2 y2 (-k) ?_ ?_ ht ?_ ?_ (.inr rfl) ⟨hg, hsg, Ln.of g0 ?_, Nat.le_trans l1 c1, Nat.le_trans l2 c2⟩ ⟨hg', hsg', Ln.of g0' ?_, Nat.le_trans l3 c3, Nat.le_trans l4 c2⟩
      · array_mem_dec
      · refine Same.free ?_ nn
        array_mem_dec
      · simp_wf
      · simp_wf
      · rw [← e1, ← e2]
        exact (ln1 hd).1
      · rw [← e1', ← e2']
        exact (ln1 hd).2
def spCanonicalSplit (K : PySem.W.Frag) : Sp := fun vs H Q _ => ∃ (af : Addr) (a b c k : Int), vs = [.ref af] ∧ SqT K H af [.int a, .int b, .int c] ∧ SF k a b c ∧ a.natAbs ≤ 1099511627776 ∧ b.natAbs ≤ 1099511627776 ∧ c.natAbs ≤ 1099511627776 ∧ k ≤ 4398046511104 ∧
  ∀ H' t tf tm c' p q r s, Same H H' → H' t = some (.tup [.ref tf, .ref tm]) → SqT K H' tf [.int 0, .int k, .int c'] → SqT K H' tm [.int p, .int q, .int r, .int s] → CS k a b c c' p q r s → Bd 9500 p → Bd 19100 q → Bd 9500 r → Bd 19100 s → Q (.ref t) H'
theorem okCanonicalSplit (T : Txt K mg fa fd) : FnOk P w K mg base CX0 4 (fa 34) (fd 34) ["form"] (spCanonicalSplit K) := by
  refine T.F_canonical_split.ok scCanonicalSplit (fun vs H Q E h => ?_) (fun cdv A outer s H vs Q E hr h => ?_)
  · obtain ⟨af, a, b, c, k, rfl, hs, F, b1, b2, b3, b4, kk⟩ := h
    rfl
  · obtain ⟨af, a, b, c, k, rfl, hs, F, b1, b2, b3, b4, kk⟩ := h
    refine ⟨_, (pss_cons (ps_asg (pe_lc (own := [("point", 8)]) (g := gName 8) (tt := tYes) rfl scCanonicalSplit.nd (piL K (pe_call (sp := spZeroLines K) (okZeroLines T) hr (by rfl) T.G_zero_lines T.F_zero_lines.kp T.B_zero_lines .nil pass0 (pa_cons (pv 0) pa_nil))) (blkOk_by (own := [("point", 8)]) (N := ["form", "first", "second", "m", "_", "k", "c", "step", "point"]) (sc := defScope sCanonicalSplit) (by decide +kernel)) (fun _ _ _ _ _ => (pg_name (i := 8) scCanonicalSplit.nd rfl (Or.inl rfl))) (fun _ _ _ _ _ => pts_nil) (fun _ _ _ _ _ => (pe_call (sp := spCompleted K) (okCompleted T) (hr.mono (by decide)) (by rfl) T.G_completed T.F_completed.kp T.B_completed .nil pass0 (pa_cons (pv 8) pa_nil)))) (pgU K 2 (by rfl) (pgs_cons (pg_name (i := 1) scCanonicalSplit.nd rfl (Or.inl rfl)) (pgs_cons (pg_name (i := 2) scCanonicalSplit.nd rfl (Or.inl rfl)) pgs_nil))))
      (pss_cons (ps_set (i := 3) scCanonicalSplit.nd rfl (Or.inl rfl) (pe_ifExp (pt_cmp (pc_gt (pe_ix (ixT K) (pe_call (sp := spAct K) (okAct T) (hr.mono (by decide)) (by rfl) T.G_act T.F_act.kp T.B_act .nil pass0 (pa_cons (pv 0) (pa_cons (pv 1) pa_nil))) pe_int (fun _ _ => rfl)) pe_int)) (pv 1) (pv 2)))
      (pss_cons (ps_asg (pe_call (sp := spAct K) (okAct T) (hr.mono (by decide)) (by rfl) T.G_act T.F_act.kp T.B_act .nil pass0 (pa_cons (pv 0) (pa_cons (pv 3) pa_nil))) (pgT K 3 (by rfl) (pgs_cons (pg_name (i := 4) scCanonicalSplit.nd rfl (Or.inl rfl)) (pgs_cons (pg_name (i := 5) scCanonicalSplit.nd rfl (Or.inl rfl)) (pgs_cons (pg_name (i := 6) scCanonicalSplit.nd rfl (Or.inl rfl)) pgs_nil)))))
      (pss_cons (ps_set (i := 7) scCanonicalSplit.nd rfl (Or.inl rfl) (pe_tup (pa_cons pe_int (pa_cons (pe_un un_neg (pe_op op_fdivX (pv 6) (pv 5))) (pa_cons pe_int (pa_cons pe_int pa_nil))))))
      (pss_one (ps_ret (pe_tup (pa_cons (pe_tup (pa_cons pe_int (pa_cons (pv 5) (pa_cons (pe_op op_mod (pv 6) (pv 5)) pa_nil)))) (pa_cons (pe_call (sp := spMultiply K) (okMultiply T) (hr.mono (by decide)) (by rfl) T.G_multiply T.F_multiply.kp T.B_multiply .nil pass0 (pa_cons (pv 3) (pa_cons (pv 7) pa_nil))) pa_nil))))))))), ?_⟩
    have k0 := F.k0
    have ga : Bd 41 a := Bd.of b1 (by decide)
    have gb : Bd 41 b := Bd.of b2 (by decide)
    have gc : Bd 41 c := Bd.of b3 (by decide)
    clean_wf
    refine uZeroLines rfl hs F b1 b2 b3 b4 ?_
    intro H1 L t1 t2 x1 y1 x2 y2 z sm1 nL hL st1 st2 hz P1 P2
    have gx1 : Bd 60 x1 := Bd.of P1.b1 (by decide)
    have gy1 : Bd 60 y1 := Bd.of P1.b2 (by decide)
    have gx2 : Bd 60 x2 := Bd.of P2.b1 (by decide)
    have gy2 : Bd 60 y2 := Bd.of P2.b2 (by decide)
    have pg1 := P1.g
    have pg2 := P2.g
    clean_wf
    refine R.refs (S := SqL K _) (xs := [.ref t1, .ref t2]) (SqL.of hL) ?_
    intro D nD
    refine lc_list (K := K) (a := L) (xs := [.ref t1, .ref t2]) (fun i H' => Same H1 H' ∧ ((i = 0 ∧ H' D = some (.lst [])) ∨ (∃ m1 u1 v1, u1 * x1 + v1 * y1 = 1 ∧ Bd 9404 u1 ∧ Bd 9404 v1 ∧ SqT K H' m1 [.int x1, .int (-v1), .int y1, .int u1] ∧ ((i = 1 ∧ H' D = some (.lst [.ref m1])) ∨ (i = 2 ∧ ∃ m2 u2 v2, u2 * x2 + v2 * y2 = 1 ∧ Bd 9404 u2 ∧ Bd 9404 v2 ∧ SqT K H' m2 [.int x2, .int (-v2), .int y2, .int u2] ∧ H' D = some (.lst [.ref m1, .ref m2]))))))
      ⟨same_upd nD, .inl ⟨rfl, upd_same⟩⟩ (fun i H' _ h => h.1.seq (SqL.of hL)) (fun i x H2 hx h => ?_) (fun H2 h => ?_)
    · obtain ⟨sm2, h⟩ := h
      have st1' := same_seqT sm2 st1
      have st2' := same_seqT sm2 st2
      rcases h with ⟨rfl, hD⟩ | ⟨m1, u1, v1, d1, e1, e2, sT1, ⟨rfl, hD⟩ | ⟨rfl, _⟩⟩
      · cases hx
        clean_wf
        refine ⟨rfl, ?_⟩
        dsimp only [tYes]
        rw [if_pos rfl]
        clean_wf
        intro u v d e1 e2
        clean_wf
        refine ⟨_, sn _ _ hD, (by show _ < sizeLine; exact Nat.lt_of_lt_of_le (show _ < 5 by simp) (by decide)), same_mut (sm2.trans sn) nD, .inr ⟨tn, u, v, d, e1, e2, ?_, .inl ⟨rfl, upd_same⟩⟩⟩
        exact SqT.of ((upd_ne (fun k => by rw [k, sn _ _ hD] at ht; cases ht)).trans ht)
      · cases hx
        clean_wf
        refine ⟨rfl, ?_⟩
        dsimp only [tYes]
        rw [if_pos rfl]
        clean_wf
        intro u v d e3 e4
        clean_wf
        refine ⟨_, sn _ _ hD, (by show _ < sizeLine; exact Nat.lt_of_lt_of_le (show _ < 5 by simp) (by decide)), same_mut (sm2.trans sn) nD, .inr ⟨m1, u1, v1, d1, e1, e2, ?_, .inr ⟨rfl, tn, u, v, d, e3, e4, ?_, upd_same⟩⟩⟩
        · exact upd_seqT (sn _ _ hD) (same_seqT sn sT1)
        · exact SqT.of ((upd_ne (fun k => by rw [k, sn _ _ hD] at ht; cases ht)).trans ht)
      · cases hx
    · obtain ⟨sm2, h⟩ := h
      obtain ⟨m1, u1, v1, d1, e1, e2, sT1, m2, u2, v2, d2, e3, e4, sT2, hD⟩ : ∃ m1 u1 v1, u1 * x1 + v1 * y1 = 1 ∧ Bd 9404 u1 ∧ Bd 9404 v1 ∧ SqT K H2 m1 [.int x1, .int (-v1), .int y1, .int u1] ∧ ∃ m2 u2 v2, u2 * x2 + v2 * y2 = 1 ∧ Bd 9404 u2 ∧ Bd 9404 v2 ∧ SqT K H2 m2 [.int x2, .int (-v2), .int y2, .int u2] ∧ H2 D = some (.lst [.ref m1, .ref m2]) := by
        rcases h with ⟨h, _⟩ | ⟨m1, u1, v1, d1, e1, e2, sT1, ⟨h, _⟩ | ⟨_, m2, u2, v2, d2, e3, e4, sT2, hD⟩⟩
        · cases h
        · cases h
        · exact ⟨m1, u1, v1, d1, e1, e2, sT1, m2, u2, v2, d2, e3, e4, sT2, hD⟩
      refine r_gunl (SqL.of hD) rfl ?_
      have hs2 := same_seqT (sm1.trans sm2) hs
      clean_wf
      have q1 : 2 * a * x1 * -v1 + b * (x1 * u1 + -v1 * y1) + 2 * c * y1 * u1 = z := P1.l.mid d1
      have q2 : fB a b c x2 (-v2) y2 u2 = -z := P2.l.mid d2
      have sM1 : SqT K HN m1 [.int x1, .int (-v1), .int y1, .int u1] := by simp_wf
      have sM2 : SqT K HN m2 [.int x2, .int (-v2), .int y2, .int u2] := by simp_wf
      rw [q1]
      obtain ⟨tM, x, y, u, v, hM1, hM2, sM, dM, lM, bx, by', bu, bv⟩ : ∃ tM x y u v, (0 < z → tM = m1) ∧ (¬ 0 < z → tM = m2) ∧ SqT K HN tM [.int x, .int (-v), .int y, .int u] ∧ u * x + v * y = 1 ∧ Ln a b c k x y ∧ Bd 60 x ∧ Bd 60 y ∧ Bd 9404 u ∧ Bd 9404 v := by
        rcases hz with rfl | rfl
        · exact ⟨m1, x1, y1, u1, v1, fun _ => rfl, fun w => absurd k0 w, sM1, d1, P1.l, gx1, gy1, e1, e2⟩
        · have l2 := P2.l
          rw [Int.neg_neg] at l2
          exact ⟨m2, x2, y2, u2, v2, fun w => by omega, fun _ => rfl, sM2, d2, l2, gx2, gy2, e3, e4⟩
      refine iteVV (v := .ref tM) (fun w => by rw [hM1 w]; rfl) (fun w => by rw [hM2 w]; rfl) ?_
      have qM : 2 * a * x * -v + b * (x * u + -v * y) + 2 * c * y * u = k := lM.mid dM
      have hsN : SqT K HN af [.int a, .int b, .int c] := by simp_wf
      have gk : Bd 43 k := Bd.of (m := 4398046511104) (by omega) (by decide)
      have braw : Bd 43 (2 * a * x * -v + b * (x * u + -v * y) + 2 * c * y * u) := by
        rw [qM]
        exact gk
      clear sT1 sT2 sM1 sM2 q1 q2 hs2 hD hM1 hM2 d1 d2 e1 e2 e3 e4 P1 P2 gx1 gy1 gx2 gy2 pg1 pg2
      clean_wf
      have hcs := cs_of k0 dM lM
      rw [← qM] at hcs kk
      refine kk _ tn _ _ (fA a b c (-v) u % (2 * a * x * -v + b * (x * u + -v * y) + 2 * c * y * u)) _ _ _ _ ?_ ht ?_ ?_ hcs ?_ ?_ ?_ ?_
      · array_mem_dec
      · unfold fA
        simp_wf
      · unfold fA
        simp_wf
      all_goals (try unfold fA); (apply bdm; clean_wf)
def spFlatParts (K : PySem.W.Frag) : Sp := fun vs H Q _ => ∃ (af : Addr) (a b c g p q : Int), vs = [.ref af] ∧ SqT K H af [.int a, .int b, .int c] ∧ FlatR a b c g p q ∧ Bd 50 a ∧ Bd 50 b ∧ Bd 50 c ∧ Bd 50 g ∧ Bd 50 p ∧ Bd 50 q ∧ R.Nw H [.int g, .int p, .int q] Q
theorem uFlatParts {K : PySem.W.Frag} {H : Hp} {Q : VK} {E : XK} {vs : List V} {af : Addr} {a b c g p q : Int} (e : vs = [.ref af]) (hs : SqT K H af [.int a, .int b, .int c]) (F : FlatR a b c g p q) (b1 : Bd 50 a) (b2 : Bd 50 b) (b3 : Bd 50 c) (b4 : Bd 50 g) (b5 : Bd 50 p) (b6 : Bd 50 q) (kk : R.Nw H [.int g, .int p, .int q] Q) : spFlatParts K vs H Q E := ⟨af, a, b, c, g, p, q, e, hs, F, b1, b2, b3, b4, b5, b6, kk⟩
theorem okFlatParts (T : Txt K mg fa fd) : FnOk P w K mg base CX0 3 (fa 35) (fd 35) ["form"] (spFlatParts K) := by
  refine T.F_flat_parts.ok scFlatParts (fun vs H Q E h => ?_) (fun cdv A outer s H vs Q E hr h => ?_)
  · obtain ⟨af, a, b, c, g, p, q, rfl, hs, F, b1, b2, b3, b4, b5, b6, kk⟩ := h
    rfl
  · obtain ⟨af, a, b, c, g, p, q, rfl, hs, F, b1, b2, b3, b4, b5, b6, kk⟩ := h
    refine ⟨_, (pss_cons (ps_asg (pv 0) (pgT K 3 (by rfl) (pgs_cons (pg_name (i := 1) scFlatParts.nd rfl (Or.inl rfl)) (pgs_cons (pg_name (i := 2) scFlatParts.nd rfl (Or.inl rfl)) (pgs_cons (pg_name (i := 3) scFlatParts.nd rfl (Or.inl rfl)) pgs_nil)))))
      (pss_cons (ps_set (i := 4) scFlatParts.nd rfl (Or.inl rfl) (pe_call (sp := spContent K) (okContent T) hr (by rfl) T.G_content T.F_content.kp T.B_content .nil pass0 (pa_cons (pv 0) pa_nil)))
      (pss_cons (ps_if (pt_cmp (pc_eqI (pv 4) pe_int))
      (pss_one (ps_ret (pe_tup (pa_cons pe_int (pa_cons pe_int (pa_cons pe_int pa_nil))))))
      pss_nil)
      (C8.pss_cut (ps_if (PW.pt (pw_or (pt_cmp (pc_lt (pv 1) pe_int)) (pw_or1 (pt_cmp (pc_lt (pv 3) pe_int)))))
      (pss_one (ps_set (i := 4) scFlatParts.nd rfl (Or.inl rfl) (pe_un un_neg (pv 4))))
      pss_nil)
      (pss_cons (ps_set (i := 5) scFlatParts.nd rfl (Or.inl rfl) (pe_call (sp := spFloorRoot K) (okFloorRoot T) (hr.mono (by decide)) (by rfl) T.G_floor_root T.F_floor_root.kp T.B_floor_root .nil pass0 (pa_cons (pe_op op_fdivX (pv 1) (pv 4)) pa_nil)))
      (pss_cons (ps_if (pt_cmp (pc_eqI (pv 5) pe_int))
      (pss_one (ps_ret (pe_tup (pa_cons (pv 4) (pa_cons pe_int (pa_cons pe_int pa_nil))))))
      pss_nil)
      (pss_one (ps_ret (pe_tup (pa_cons (pv 4) (pa_cons (pv 5) (pa_cons (pe_op op_fdivX (pv 2) (pe_op op_mulW (pe_op op_mulW pe_int (pv 4)) (pv 5))) pa_nil)))))))))))), ?_⟩
    clean_wf
    rcases F with ⟨rfl, rfl, rfl, rfl, rfl, rfl⟩ | F
    · have e : gL [0, 0, 0] = 0 := by decide
      rw [e]
      clean_wf
      refine wayT rfl ?_
      clean_wf
      refine kk _ _ ?_ ht
      array_mem_dec
    · rw [F.content]
      obtain ⟨ea, eb, ec, co, sg, g0⟩ := F
      have bg : Bd 50 (g.natAbs : Int) := b4.abs
      generalize hGG : (g.natAbs : Int) = G at bg ⊢
      clean_wf
      refine wayF (by omega) ?_
      have hag : a.fdiv g = p * p := by rw [ea, Int.mul_fdiv_cancel_left _ g0]
      have hpn : 0 ≤ p := by omega
      have hroot : rootI (p * p) = p := (rootI_uniq (Int.mul_nonneg hpn hpn) hpn (Int.le_refl _) (by have : (p + 1) * (p + 1) = p * p + 2 * p + 1 := by grind
                                                                                                     omega)).symm
      have hsg : (a < 0 ∨ c < 0) ↔ g < 0 := by
        have pp : 0 ≤ p * p := Int.mul_nonneg hpn hpn
        have qq : 0 ≤ q * q := by
          rcases Int.le_total 0 q with h | h
          · exact Int.mul_nonneg h h
          · exact Int.mul_nonneg_of_nonpos_of_nonpos h h
        constructor
        · intro h
          by_cases z : g < 0
          · exact z
          · have := Int.mul_nonneg (show 0 ≤ g by omega) pp
            have := Int.mul_nonneg (show 0 ≤ g by omega) qq
            omega
        · intro h
          rcases sg with k | ⟨_, k⟩
          · left
            rw [ea]
            exact Int.mul_neg_of_neg_of_pos h (Int.mul_pos k k)
          · right
            rw [ec, k]
            omega
      clean_wf
      refine R.cut (Mid := fun σ H' => σ = [some (.ref af), some (.int a), some (.int b), some (.int c), some (.int g), none] ∧ H' = H) ?_ (fun σ H' hM => ?_)
      · skip
        clean_wf
        refine way2 (fun z => ?_) (fun z => ?_)
        · skip
          clean_wf
          refine ⟨?_, rfl⟩
          rw [show g = -G by have := hsg.mp (.inl z); omega]
          rfl
        clean_wf
        refine way2 (fun z2 => ?_) (fun z2 => ?_)
        · skip
          clean_wf
          refine ⟨?_, rfl⟩
          rw [show g = -G by have := hsg.mp (.inr z2); omega]
          rfl
        · skip
          clean_wf
          refine ⟨?_, rfl⟩
          have : ¬ g < 0 := fun h => (hsg.mpr h).elim z z2
          rw [show g = G by omega]
          rfl
      · obtain ⟨rfl, rfl⟩ := hM
        repeat' (first
          | with_reducible apply R.var
          | with_reducible apply R.gsE
          | ((with_reducible apply R.gsN); (focus exact rfl))
          | with_reducible apply R.lenS
          | ((with_reducible apply R.lenB); exact rfl)
          | ((with_reducible apply R.isEq); exact rfl)
          | with_reducible apply R.op
          | with_reducible apply R.i2
          | with_reducible apply R.i0
          | with_reducible apply R.con
          | with_reducible apply R.cons
          | with_reducible apply R.nil
          | ((with_reducible apply R.gBd); first | with_reducible assumption | with_reducible apply Bd.mul | with_reducible apply Bd.add | with_reducible apply Bd.sub | ((with_reducible apply Bd.l8); exact eq_true (by decide)) | ((with_reducible apply Bd.lit); exact eq_true (by decide)) | with_reducible apply Bd.neg | with_reducible apply Bd.div | with_reducible apply Bd.abs | with_reducible apply Bd.mod | with_reducible apply Bd.fdiv | ((with_reducible apply Bd.om); omega))
          | with_reducible apply Bd.mulW
          | ((with_reducible apply R.gSqT); first | with_reducible assumption | ((with_reducible apply SqT.of); with_reducible assumption) | ((with_reducible apply same_seqT); with_reducible assumption) | ((with_reducible apply kp_seqT); with_reducible assumption) | with_reducible apply hU)
          | ((with_reducible apply R.isLe); first | decide | omega)
          | with_reducible apply R.gcons
          | with_reducible apply R.gname
          | ((with_reducible apply R.ixT); (focus ((repeat' (first | with_reducible assumption | with_reducible apply hU | ((with_reducible apply SqT.of); with_reducible assumption) | ((with_reducible apply same_seqT); with_reducible assumption) | ((with_reducible apply kp_seqT); with_reducible assumption) | ((with_reducible apply Dw.same); with_reducible assumption))); done)); exact rfl)
          | ((with_reducible apply R.ixL); (focus ((repeat' (first | with_reducible assumption | ((with_reducible apply SqL.of); with_reducible assumption) | ((with_reducible apply Same.seq); with_reducible assumption) | ((with_reducible apply Kp.seqL); with_reducible assumption) | ((with_reducible apply fresh_ne); with_reducible assumption) | ((with_reducible apply Dw.same); with_reducible assumption))); done)); exact rfl)
          | with_reducible apply R.test
          | with_reducible apply R.tb'
          | with_reducible apply R.isbl
          | with_reducible apply R.cmp
          | with_reducible apply R.t2i
          | with_reducible apply R.intp
          | with_reducible apply R.ifs
          | with_reducible apply R.asg
          | with_reducible apply R.seq
          | with_reducible apply R.gtup
          | with_reducible apply R.u1
          | with_reducible apply R.un
          | with_reducible apply R.ret
          | with_reducible apply R.next
          | with_reducible apply R.call
          | with_reducible apply iteT
          | with_reducible apply iteF
          | with_reducible assumption
          | with_reducible apply R.tup
          | with_reducible apply R.lst
          | with_reducible apply R.callB
          | with_reducible apply R.gnil
          | with_reducible apply R.brk
          | with_reducible apply R.cont
          | with_reducible apply R.drop
          | with_reducible apply R.par
          | with_reducible apply R.par2
          | with_reducible apply R.par3
          | with_reducible apply R.par4
          | with_reducible apply R.tif
          | with_reducible apply R.and
          | with_reducible apply R.or
          | with_reducible apply R.not
          | with_reducible apply R.andV
          | with_reducible apply R.orV
          | with_reducible apply R.notV
          | with_reducible apply R.chain
          | with_reducible apply R.tupL
          | with_reducible apply R.lstL
          | with_reducible apply R.cat
          | with_reducible apply R.absI
          | with_reducible apply R.intI
          | with_reducible apply R.intB
          | with_reducible apply R.eqS
          | with_reducible apply R.eqBl
          | with_reducible apply R.neBl
          | with_reducible apply R.sl
          | with_reducible apply R.noPart
          | with_reducible apply R.part
          | with_reducible apply R.isInt
          | with_reducible apply R.slL
          | with_reducible apply R.isiT
          | with_reducible apply R.isiLst
          | with_reducible apply R.nwT
          | with_reducible apply R.nwL
          | ((with_reducible apply R.mt); intro HN tn sn nn ht)
          | ((with_reducible apply R.ml); intro HN tn sn nn ht)
          | ((with_reducible apply R.isiTupS); focus ((repeat' (first | with_reducible assumption | with_reducible apply hU | ((with_reducible apply SqT.of); with_reducible assumption) | ((with_reducible apply same_seqT); with_reducible assumption) | ((with_reducible apply kp_seqT); with_reducible assumption) | ((with_reducible apply Dw.same); with_reducible assumption))); done))
          | ((with_reducible apply R.ne4); focus ((repeat' (first | with_reducible assumption | with_reducible apply hU | ((with_reducible apply SqT.of); with_reducible assumption) | ((with_reducible apply same_seqT); with_reducible assumption) | ((with_reducible apply kp_seqT); with_reducible assumption) | ((with_reducible apply Dw.same); with_reducible assumption))); done))
          | ((with_reducible apply R.ne3); focus ((repeat' (first | with_reducible assumption | with_reducible apply hU | ((with_reducible apply SqT.of); with_reducible assumption) | ((with_reducible apply same_seqT); with_reducible assumption) | ((with_reducible apply kp_seqT); with_reducible assumption) | ((with_reducible apply Dw.same); with_reducible assumption))); done))
          | ((with_reducible apply R.ne2); focus ((repeat' (first | with_reducible assumption | with_reducible apply hU | ((with_reducible apply SqT.of); with_reducible assumption) | ((with_reducible apply same_seqT); with_reducible assumption) | ((with_reducible apply kp_seqT); with_reducible assumption) | ((with_reducible apply Dw.same); with_reducible assumption))); done))
          | ((with_reducible apply R.eq4); focus ((repeat' (first | with_reducible assumption | with_reducible apply hU | ((with_reducible apply SqT.of); with_reducible assumption) | ((with_reducible apply same_seqT); with_reducible assumption) | ((with_reducible apply kp_seqT); with_reducible assumption) | ((with_reducible apply Dw.same); with_reducible assumption))); done))
          | ((with_reducible apply R.eq3); focus ((repeat' (first | with_reducible assumption | with_reducible apply hU | ((with_reducible apply SqT.of); with_reducible assumption) | ((with_reducible apply same_seqT); with_reducible assumption) | ((with_reducible apply kp_seqT); with_reducible assumption) | ((with_reducible apply Dw.same); with_reducible assumption))); done))
          | ((with_reducible apply R.eq2); focus ((repeat' (first | with_reducible assumption | with_reducible apply hU | ((with_reducible apply SqT.of); with_reducible assumption) | ((with_reducible apply same_seqT); with_reducible assumption) | ((with_reducible apply kp_seqT); with_reducible assumption) | ((with_reducible apply Dw.same); with_reducible assumption))); done))
          | ((with_reducible apply R.nw); intro HN tn sn ht)
          | with_reducible apply R.notT
          | with_reducible apply R.notF
          | ((with_reducible apply SqL.of); with_reducible assumption)
          | ((with_reducible apply sameB); with_reducible assumption)
          | ((with_reducible apply same_at); with_reducible assumption)
          | ((with_reducible apply Same.seq); with_reducible assumption)
          | ((with_reducible apply Kp.seqL); with_reducible assumption)
          | ((with_reducible apply fresh_ne); with_reducible assumption)
          | ((with_reducible apply Dw.same); with_reducible assumption)
          | ((with_reducible apply R.isEq); exact eq_true (by first | decide | omega))
          | ((with_reducible apply R.isLt); first | decide | omega)
          | ((with_reducible apply R.isLtI); first | decide | omega)
          | ((with_reducible apply R.isLeI); first | decide | omega)
          | ((with_reducible apply R.cdiv); exact rfl)
          | ((with_reducible apply R.cpow); exact rfl)
          | with_reducible apply R.cdivX
          | ((with_reducible apply R.isNe); omega)
          | ((with_reducible apply wayNF); first | exact rfl | exact ⟨rfl, rfl⟩ | exact ⟨rfl, rfl, rfl⟩ | exact ⟨rfl, rfl, rfl, rfl⟩)
          | with_reducible apply R.bm
          | ((with_reducible apply R.bmT); (focus ((first | with_reducible assumption | ((with_reducible apply same_at); with_reducible assumption) | ((with_reducible apply kp_at); with_reducible assumption)); done)))
          | with_reducible apply R.dput
          | with_reducible apply R.dget
          | with_reducible apply R.din
          | with_reducible apply R.dget2
          | with_reducible apply R.forE
          | with_reducible apply R.rng1
          | with_reducible apply R.rng2
          | with_reducible apply R.rg1
          | with_reducible apply R.rg2
          | with_reducible apply R.lcE
          | with_reducible apply R.itup
          | with_reducible apply R.ilst
          | with_reducible apply uLawNext
          | with_reducible apply uLawChange
          | with_reducible apply uMultiply
          | with_reducible apply uDeterminant
          | with_reducible apply uNegative
          | with_reducible apply uLawMul
          | with_reducible apply uLawWorth
          | with_reducible apply uWorth
          | with_reducible apply uScaled
          | with_reducible apply uDiscriminant
          | with_reducible apply uInverse
          | with_reducible apply uAct
          | with_reducible apply uLawAct
          | with_reducible apply uScaled
          | with_reducible apply uLawSquare
          | with_reducible apply uLawRoot
          | with_reducible apply uIsReducedDefinite
          | with_reducible apply uStepDown
          | with_reducible apply uScaled
          | with_reducible apply uIsReducedIndefinite
          | with_reducible apply uStepOf
          | with_reducible apply uStepNear
          | with_reducible apply uDirected
          | with_reducible apply uCompleted
          | with_reducible apply uBezout
          | with_reducible apply uDiscriminant
          | with_reducible apply uContent
          | with_reducible apply uCycle
          | with_reducible apply uKind
          | with_reducible apply uIsSquare
          | fail
          )
        have hq := hroot
        rw [hag]
        refine ⟨p * p, rfl, Int.mul_nonneg hpn hpn, pow_up (a := 100) (Int.natAbs_mul p p ▸ (Nat.pow_add 2 50 50 ▸ Nat.mul_lt_mul'' b5 b5)) (by decide), ?_⟩
        rw [hroot]
        clean_wf
        refine way2 (fun z => ?_) (fun z => ?_)
        · rcases sg with k | ⟨k1, k2⟩
          · omega
          · rw [k1, k2] at kk
            clean_wf
            refine kk _ _ ?_ ht
            array_mem_dec
        · have hbq : b.fdiv (2 * g * p) = q := by
            rw [eb, show 2 * (g * (p * q)) = 2 * g * p * q by grind, Int.mul_fdiv_cancel_left]
            intro w
            rcases Int.mul_eq_zero.mp w with w | w
            · omega
            · exact z w
          have hnz : 2 * g * p ≠ 0 := by
            intro w
            rcases Int.mul_eq_zero.mp w with w | w
            · omega
            · exact z w
          rw [← hbq] at kk
          clean_wf
          refine kk _ _ ?_ ht
          array_mem_dec
def spCanonicalFlat (K : PySem.W.Frag) : Sp := fun vs H Q _ => ∃ (af : Addr) (a b c g p q : Int), vs = [.ref af] ∧ SqT K H af [.int a, .int b, .int c] ∧ FlatR a b c g p q ∧ Bd 50 a ∧ Bd 50 b ∧ Bd 50 c ∧ Bd 50 g ∧ Bd 50 p ∧ Bd 50 q ∧
  ∀ H' t tf tm u v, Same H H' → H' t = some (.tup [.ref tf, .ref tm]) → SqT K H' tf [.int g, .int 0, .int 0] → SqT K H' tm [.int u, .int (-q), .int v, .int p] → u * p + v * q = 1 → Bd 9404 u → Bd 9404 v → Q (.ref t) H'
theorem FlatR.co {a b c g p q : Int} (h : FlatR a b c g p q) : gI p q = 1 := by
  rcases h with ⟨_, _, _, _, rfl, rfl⟩ | h
  · decide
  · exact h.co
theorem okCanonicalFlat (T : Txt K mg fa fd) : FnOk P w K mg base CX0 4 (fa 36) (fd 36) ["form"] (spCanonicalFlat K) := by
  refine T.F_canonical_flat.ok scCanonicalFlat (fun vs H Q E h => ?_) (fun cdv A outer s H vs Q E hr h => ?_)
  · obtain ⟨af, a, b, c, g, p, q, rfl, hs, F, b1, b2, b3, b4, b5, b6, kk⟩ := h
    rfl
  · obtain ⟨af, a, b, c, g, p, q, rfl, hs, F, b1, b2, b3, b4, b5, b6, kk⟩ := h
    refine ⟨_, (pss_cons (ps_asg (pe_call (sp := spFlatParts K) (okFlatParts T) hr (by rfl) T.G_flat_parts T.F_flat_parts.kp T.B_flat_parts .nil pass0 (pa_cons (pv 0) pa_nil)) (pgT K 3 (by rfl) (pgs_cons (pg_name (i := 1) scCanonicalFlat.nd rfl (Or.inl rfl)) (pgs_cons (pg_name (i := 2) scCanonicalFlat.nd rfl (Or.inl rfl)) (pgs_cons (pg_name (i := 3) scCanonicalFlat.nd rfl (Or.inl rfl)) pgs_nil)))))
      (pss_cons (ps_asg (pe_call (sp := spBezout K) (okBezout T) (hr.mono (by decide)) (by rfl) T.G_bezout T.F_bezout.kp T.B_bezout .nil pass0 (pa_cons (pv 2) (pa_cons (pv 3) pa_nil))) (pgT K 3 (by rfl) (pgs_cons (pg_name (i := 4) scCanonicalFlat.nd rfl (Or.inl rfl)) (pgs_cons (pg_name (i := 5) scCanonicalFlat.nd rfl (Or.inl rfl)) (pgs_cons (pg_name (i := 6) scCanonicalFlat.nd rfl (Or.inl rfl)) pgs_nil)))))
      (pss_one (ps_ret (pe_tup (pa_cons (pe_tup (pa_cons (pv 1) (pa_cons pe_int (pa_cons pe_int pa_nil)))) (pa_cons (pe_tup (pa_cons (pv 5) (pa_cons (pe_un un_neg (pv 3)) (pa_cons (pv 6) (pa_cons (pv 2) pa_nil))))) pa_nil))))))), ?_⟩
    have b5' : p.natAbs < 1152921504606846976 := b5.mono (show 50 ≤ 60 by decide)
    have b6' : q.natAbs < 1152921504606846976 := b6.mono (show 50 ≤ 60 by decide)
    clean_wf
    intro H' pp u v sm hp e bu bv
    rw [F.co] at e
    clean_wf
    refine kk _ tn _ _ u v ?_ ht ?_ ?_ e bu bv
    · array_mem_dec
    · simp_wf
    · simp_wf
theorem CnI.ofD {E g a b c x y z p q r s : Int} (hg : g = 1 ∨ g = -1) (h : RdD E (g * a) (g * b) (g * c) (g * x) (g * y) (g * z) p q r s) (R : RedD (g * x) (g * y) (g * z)) (b1 : Bd 8000 p) (b2 : Bd 8000 q) (b3 : Bd 8000 r) (b4 : Bd 8000 s) : CnI (.d E g) (a, b, c) (x, y, z) (p, q, r, s) := by
  have ea := h.ea
  have eb := h.eb
  have ec := h.ec
  rw [fA_sg] at ea ec
  rw [fB_sg] at eb
  have e : (x, y, z) = actM (a, b, c) (p, q, r, s) := fm_ext (sg_cancel hg ea) (sg_cancel hg eb) (sg_cancel hg ec)
  exact ⟨h.det, e, ⟨b1.mono (by decide), b2.mono (by decide), b3.mono (by decide), b4.mono (by decide)⟩, ⟨(p, q, r, s), h.det, e, R⟩⟩
def spCanonicalForm (K : PySem.W.Frag) : Sp := fun vs H Q _ => ∃ (af : Addr) (a b c : Int) (S : Srt), vs = [.ref af] ∧ SqT K H af [.int a, .int b, .int c] ∧ InS S (a, b, c) ∧ a.natAbs ≤ 274877906944 ∧ b.natAbs ≤ 274877906944 ∧ c.natAbs ≤ 274877906944 ∧
  ∀ H' t tf tm x y z p q r s, Same H H' → H' t = some (.tup [.ref tf, .ref tm]) → SqT K H' tf [.int x, .int y, .int z] → SqT K H' tm [.int p, .int q, .int r, .int s] → CnI S (a, b, c) (x, y, z) (p, q, r, s) → Q (.ref t) H'
theorem uCanonicalForm {K : PySem.W.Frag} {H : Hp} {Q : VK} {E : XK} {vs : List V} {af : Addr} {a b c : Int} {S : Srt} (e : vs = [.ref af]) (hs : SqT K H af [.int a, .int b, .int c]) (I : InS S (a, b, c)) (b1 : a.natAbs ≤ 274877906944) (b2 : b.natAbs ≤ 274877906944) (b3 : c.natAbs ≤ 274877906944)
    (kk : ∀ H' t tf tm x y z p q r s, Same H H' → H' t = some (.tup [.ref tf, .ref tm]) → SqT K H' tf [.int x, .int y, .int z] → SqT K H' tm [.int p, .int q, .int r, .int s] → CnI S (a, b, c) (x, y, z) (p, q, r, s) → Q (.ref t) H') : spCanonicalForm K vs H Q E := ⟨af, a, b, c, S, e, hs, I, b1, b2, b3, kk⟩
theorem okCanonicalForm (T : Txt K mg fa fd) : FnOk P w K mg base CX0 10 (fa 37) (fd 37) ["form"] (spCanonicalForm K) := by
  refine T.F_canonical_form.ok scCanonicalForm (fun vs H Q E h => ?_) (fun cdv A outer s H vs Q E hr h => ?_)
  · obtain ⟨af, a, b, c, S, rfl, hs, I, b1, b2, b3, kk⟩ := h
    rfl
  · obtain ⟨af, a, b, c, S, rfl, hs, I, b1, b2, b3, kk⟩ := h
    refine ⟨_, (pss_cons (ps_set (i := 1) scCanonicalForm.nd rfl (Or.inl rfl) (pe_call (sp := spKind K) (okKind T) (hr.mono (by decide)) (by rfl) T.G_kind T.F_kind.kp T.B_kind .nil pass0 (pa_cons (pv 0) pa_nil)))
      (pss_cons (ps_if (pt_cmpR op_eq (pv 1) pe_str (nomark _))
      (pss_one (ps_ret (pe_call (sp := spReduceDefinite K) (okReduceDefinite T) hr (by rfl) T.G_reduce_definite T.F_reduce_definite.kp T.B_reduce_definite .nil pass0 (pa_cons (pv 0) pa_nil))))
      pss_nil)
      (pss_cons (ps_if (pt_cmpR op_eq (pv 1) pe_str (nomark _))
      (pss_one (ps_ret (pe_call (sp := spCanonicalSplit K) (okCanonicalSplit T) (hr.mono (by decide)) (by rfl) T.G_canonical_split T.F_canonical_split.kp T.B_canonical_split .nil pass0 (pa_cons (pv 0) pa_nil))))
      pss_nil)
      (pss_cons (ps_if (pt_cmpR op_eq (pv 1) pe_str (nomark _))
      (pss_one (ps_ret (pe_call (sp := spCanonicalFlat K) (okCanonicalFlat T) (hr.mono (by decide)) (by rfl) T.G_canonical_flat T.F_canonical_flat.kp T.B_canonical_flat .nil pass0 (pa_cons (pv 0) pa_nil))))
      pss_nil)
      (pss_one (ps_ret (pe_call (sp := spCanonical K) (okCanonical T) (hr.mono (by decide)) (by rfl) T.G_canonical T.F_canonical.kp T.B_canonical .nil pass0 (pa_cons (pv 0) pa_nil)))))))), ?_⟩
    have g1 : Bd 3000 a := (Bd.of b1 (show 274877906944 < 2 ^ 60 by decide)).mono (by decide)
    have g2 : Bd 3000 b := (Bd.of b2 (show 274877906944 < 2 ^ 60 by decide)).mono (by decide)
    have g3 : Bd 3000 c := (Bd.of b3 (show 274877906944 < 2 ^ 60 by decide)).mono (by decide)
    have g50 : 274877906944 < 2 ^ 50 := by decide
    have hk := inS_kd I
    clean_wf
    rw [hk]
    cases S with
    | d E g =>
      obtain ⟨hg, F⟩ := I
      have F : PF E (g * a) (g * b) (g * c) := F
      have hg : (g = 1 ∧ 0 < a) ∨ (g = -1 ∧ a < 0) := hg
      clean_wf
      refine wayT rfl ?_
      clean_wf
      refine ⟨af, a, b, c, E, g, rfl, hs, hg, F, by omega, by omega, by omega, ?_⟩
      intro H' t tf tm a' b' c' p q r s sm ht sf st RI hred n1 n2 n3 n4
      clean_wf
      exact kk _ _ _ _ _ _ _ _ _ _ _ sm ht sf st (CnI.ofD (sg_or hg) RI hred n1 n2 n3 n4)
    | i D =>
      obtain ⟨F, hD⟩ := I
      have F : IF D a b c := F
      clean_wf
      refine wayF (fun h => by injection h with h; exact absurd (show ("indefinite" : Str) = "definite" from h) (by decide)) ?_
      clean_wf
      refine wayF (fun h => by injection h with h; exact absurd (show ("indefinite" : Str) = "split" from h) (by decide)) ?_
      clean_wf
      refine wayF (fun h => by injection h with h; exact absurd (show ("indefinite" : Str) = "flat" from h) (by decide)) ?_
      clean_wf
      refine uCanonical rfl hs F (by omega) (by omega) (by omega) hD ?_
      intro H' t tf tm x y z p q r v sm ht sf st CI
      clean_wf
      exact kk _ _ _ _ _ _ _ _ _ _ _ sm ht sf st ⟨CI.det, CI.act, CI.bd, CI.from_⟩
    | s k =>
      obtain ⟨F, hk1⟩ := I
      have F : SF k a b c := F
      clean_wf
      refine wayF (fun h => by injection h with h; exact absurd (show ("split" : Str) = "definite" from h) (by decide)) ?_
      clean_wf
      refine wayT rfl ?_
      clean_wf
      refine ⟨af, a, b, c, k, rfl, hs, F, by omega, by omega, by omega, by omega, ?_⟩
      intro H' t tf tm c' p q r s sm ht sf st C n1 n2 n3 n4
      clean_wf
      exact kk _ _ _ _ _ _ _ _ _ _ _ sm ht sf st (CnI.ofS C n1 n2 n3 n4)
    | f g p q =>
      have F : FlatR a b c g p q := I
      obtain ⟨f1, f2, f3⟩ := F.bd b1 b3
      clean_wf
      refine wayF (fun h => by injection h with h; exact absurd (show ("flat" : Str) = "definite" from h) (by decide)) ?_
      clean_wf
      refine wayF (fun h => by injection h with h; exact absurd (show ("flat" : Str) = "split" from h) (by decide)) ?_
      clean_wf
      refine wayT rfl ?_
      clean_wf
      refine ⟨af, a, b, c, g, p, q, rfl, hs, F, Bd.of b1 g50, Bd.of b2 g50, Bd.of b3 g50, f1, f2, f3, ?_⟩
      intro H' t tf tm u v sm ht sf st e n1 n2
      clean_wf
      exact kk _ _ _ _ _ _ _ _ _ _ _ sm ht sf st (CnI.ofF F e n1 f3 n2 f2)
def spReducedForms (K : PySem.W.Frag) : Sp := fun vs H Q _ => ∃ d : Int, vs = [.int d] ∧ DvI d ∧
  ∀ H' l ys, Same H H' → H l = none → H' l = some (.lst ys) → Tps K H' ys (redI d (rootI d) (2 * rootI d + 1).toNat) → Q (.ref l) H'
theorem uReducedForms {K : PySem.W.Frag} {H : Hp} {Q : VK} {E : XK} {vs : List V} {d : Int} (e : vs = [.int d]) (v : DvI d) (kk : ∀ H' l ys, Same H H' → H l = none → H' l = some (.lst ys) → Tps K H' ys (redI d (rootI d) (2 * rootI d + 1).toNat) → Q (.ref l) H') : spReducedForms K vs H Q E := ⟨d, e, v, kk⟩
theorem okReducedForms (T : Txt K mg fa fd) : FnOk P w K mg base CX0 3 (fa 39) (fd 39) ["d"] (spReducedForms K) := by
  refine T.F__reduced_forms.ok scReducedForms (fun vs H Q E h => ?_) (fun cdv A outer s H vs Q E hr h => ?_)
  · obtain ⟨d, rfl, v, kk⟩ := h
    rfl
  · obtain ⟨d, rfl, v, kk⟩ := h
    refine ⟨_, (pss_cons (ps_set (i := 1) scReducedForms.nd rfl (Or.inl rfl) (pe_call (sp := spFloorRoot K) (okFloorRoot T) (hr.mono (by decide)) (by rfl) T.G_floor_root T.F_floor_root.kp T.B_floor_root .nil pass0 (pa_cons (pv 0) pa_nil)))
      (pss_cons (ps_set (i := 2) scReducedForms.nd rfl (Or.inl rfl) (pe_lst pa_nil))
      (pss_cons (ps_for PassesOwn.never rfl (pi_range2 (by rfl) T.m_range (pa_cons (pe_un un_neg (pv 1)) (pa_cons (pe_op op_add (pv 1) pe_int) pa_nil))) (pg_name (i := 3) scReducedForms.nd rfl (Or.inl rfl))
      (pss_one (ps_for PassesOwn.never rfl (pi_range2 (by rfl) T.m_range (pa_cons pe_int (pa_cons (pe_op op_add (pv 1) pe_int) pa_nil))) (pg_name (i := 4) scReducedForms.nd rfl (Or.inl rfl))
        (pss_one (ps_if (PW.pt (pw_and (pt_cmp (pc_neI (pv 3) pe_int)) (pw_and1 (pt_cmp (pc_eqI (pe_op op_modN (pe_op op_sub (pe_op op_mulW (pv 4) (pv 4)) (pv 0)) (pe_op op_mulW pe_int (pv 3))) pe_int)))))
          (pss_cons (ps_set (i := 5) scReducedForms.nd rfl (Or.inl rfl) (pe_tup (pa_cons (pv 3) (pa_cons (pv 4) (pa_cons (pe_op op_fdivX (pe_op op_sub (pe_op op_mulW (pv 4) (pv 4)) (pv 0)) (pe_op op_mulW pe_int (pv 3))) pa_nil)))))
            (pss_one (ps_if (PW.pt (pw_and (pt_val (pe_call (sp := spIsReducedIndefinite K) (okIsReducedIndefinite T) hr (by rfl) T.G_is_reduced_indefinite T.F_is_reduced_indefinite.kp T.B_is_reduced_indefinite .nil pass0 (pa_cons (pv 5) pa_nil))) (pw_and1 (pt_cmp (pc_eqI (pe_call (sp := spContent K) (okContent T) hr (by rfl) T.G_content T.F_content.kp T.B_content .nil pass0 (pa_cons (pv 5) pa_nil)) pe_int)))))
            (pss_one (ps_expr (pe_bm PySem.F.plainAttrs_list PySem.F.slot_list_append PySem.F.type_list_append mt_append (pv 2) (pa_cons (pv 5) pa_nil))))
            pss_nil)))
          pss_nil)))))
      (pss_one (ps_ret (pv 2)))))), ?_⟩
    have d0 := v.lo
    have d1 := v.hi
    obtain ⟨r0, r1⟩ := red_bds v
    have bq : d.natAbs < 1152921504606846976 := by omega
    have bd : Bd 60 d := Bd.om (by omega)
    clean_wf
    have hR : ∀ a b : Int, RedI d a b ↔ RedR (rootI d) a b := fun _ _ => Iff.rfl
    generalize rootI d = R0 at *
    have br : Bd 60 R0 := Bd.om (by omega)
    clean_wf
    have hl := ht
    have nD := nn
    have s1 := sn
    clear sn ht nn
    generalize tn = tF at *
    generalize HN = H1 at *
    refine R.forN (lo := -R0) (n := (R0 + 1 - -R0).toNat) (fun i σ H' => ∃ (x3 x4 x5 : Option V) (ys : List V), σ = [some (.int d), some (.int R0), some (.ref tF), x3, x4, x5] ∧ Same H H' ∧ H' tF = some (.lst ys) ∧ Tps K H' ys (redI d R0 i))
      ⟨_, _, _, [], rfl, s1, hl, .nil⟩ (fun i σ H' hi hPv => ?_) (fun σ H' hPv => ?_)
    · obtain ⟨x3, x4, x5, ys, rfl, sm, hl, tp⟩ := hPv
      have hi26 : i ≤ 41 := by omega
      rw [redI_succ]
      have hcl := redI_len d R0 i
      have hc2 : i * R0.toNat ≤ 41 * 20 := Nat.mul_le_mul hi26 (by omega)
      have a1 : -20 ≤ -R0 + (i : Int) := by omega
      have a2 : -R0 + (i : Int) ≤ 21 := by omega
      generalize -R0 + (i : Int) = a at *
      have ba : Bd 60 a := Bd.om (by omega)
      clean_wf
      have hw : (R0 + 1 - 1).toNat = R0.toNat := by omega
      rw [hw]
      refine R.forN (lo := 1) (n := R0.toNat) (fun j σ H' => ∃ (x4 x5 : Option V) (ys : List V), σ = [some (.int d), some (.int R0), some (.ref tF), some (.int a), x4, x5] ∧ Same H H' ∧ H' tF = some (.lst ys) ∧ Tps K H' ys (redI d R0 i ++ rowI d R0 a j))
        ⟨_, _, ys, rfl, sm, hl, by rw [show rowI d R0 a 0 = [] from rfl, List.append_nil]; exact tp⟩ (fun j σ H' hj hPv => ?_) (fun σ H' hPv => ?_)
      · obtain ⟨x4, x5, ys, rfl, sm, hl, tp⟩ := hPv
        rw [rowI_succ, ← List.append_assoc]
        have hlen := tp.len
        rw [List.length_append] at hlen
        have hrl := rowI_len d R0 a j
        have b1 : 1 ≤ 1 + (j : Int) := by omega
        have b2 : 1 + (j : Int) ≤ 20 := by omega
        generalize 1 + (j : Int) = b at *
        have bb : Bd 60 b := Bd.om (by omega)
        clean_wf
        by_cases a0 : a = 0
        · have hcell : cellI d R0 a b = [] := by
            unfold cellI okI
            rw [decide_eq_false (fun h => h a0)]
            rfl
          rw [hcell, List.append_nil, decide_eq_true a0]
          clean_wf
          exact ⟨_, _, ys, rfl, sm, hl, tp⟩
        · rw [decide_eq_false a0]
          clean_wf
          refine way2 (fun z => ?_) (fun z => ?_)
          · have z' := fm_em.mp z
            have cd9 : CDivX (b * b - d) (4 * a) := ⟨by omega, (Bd.om (x := 4 * a) (by omega)).mono (by decide)⟩
            obtain ⟨F, ec⟩ := cell_if v a0 z'
            have bc := cell_bd (by omega) (by omega) a0 (by omega) (by omega) ec
            clean_wf
            have hok : okI d R0 a b = (decide (RedR R0 a b) && decide (gL [a, b, (b * b - d).fdiv (4 * a)] = 1)) := by
              unfold okI
              rw [decide_eq_true a0, decide_eq_true z']
              rfl
            have hcl : cellI d R0 a b = if okI d R0 a b then [[a, b, (b * b - d).fdiv (4 * a)]] else [] := rfl
            generalize (b * b - d).fdiv (4 * a) = c at *
            rw [hcl, hok]
            by_cases z2 : RedI d a b
            · rw [decide_eq_true z2, decide_eq_true ((hR a b).mp z2)]
              clean_wf
              by_cases z3 : gL [a, b, c] = 1
              · rw [decide_eq_true z3]
                clean_wf
                have hln := sn _ _ hl
                refine R.bmT hln ?_
                clean_wf
                refine R.app hln (by omega) (fun H5 e5 h5 => ?_)
                refine ⟨_, _, ys ++ [.ref tn], rfl, ?_, h5, ?_⟩
                · rw [e5]
                  exact same_mut (sm.trans sn) nD
                · rw [e5]
                  exact ((tp.same sn).kt fun c zs h => upd_seqT hln h).snoc (upd_seqT hln (SqT.of ht))
              · rw [decide_eq_false z3]
                clean_wf
                refine ⟨_, _, ys, rfl, sm.trans sn, sn _ _ hl, ?_⟩
                exact (List.append_nil (redI d R0 i ++ rowI d R0 a j)).symm ▸ tp.same sn
            · rw [decide_eq_false z2, decide_eq_false (fun h => z2 ((hR a b).mpr h))]
              clean_wf
              refine ⟨_, _, ys, rfl, sm.trans sn, sn _ _ hl, ?_⟩
              exact (List.append_nil (redI d R0 i ++ rowI d R0 a j)).symm ▸ tp.same sn
          · have hcell : cellI d R0 a b = [] := by
              unfold cellI okI
              rw [decide_eq_false (fun h => z (fm_em.mpr h)), Bool.false_and, Bool.and_false]
              rfl
            rw [hcell, List.append_nil]
            clean_wf
            exact ⟨_, _, ys, rfl, sm, hl, tp⟩
      · obtain ⟨x4, x5, ys, rfl, sm, hl, tp⟩ := hPv
        exact ⟨_, _, _, ys, rfl, sm, hl, tp⟩
    · obtain ⟨x3, x4, x5, ys, rfl, sm, hl, tp⟩ := hPv
      clean_wf
      refine kk _ _ _ sm ?_ hl ?_
      · cases e : H tF with
        | none => rfl
        | some o =>
          rw [e] at nD
          cases nD
      · rw [show (2 * R0 + 1).toNat = (R0 + 1 - -R0).toNat by omega]
        exact tp
def ClsQ (K : PySem.W.Frag) (H : Hp) (d : Int) (Q : VK) : Prop := ∀ H' l ys ts, Same H H' → H l = none → H' l = some (.lst ys) → Tps K H' ys ts → Asc ts → (∀ z, z ∈ ts ↔ ClM d z) → Q (.ref l) H'
def spClasses (K : PySem.W.Frag) : Sp := fun vs H Q _ => ∃ d : Int, vs = [.int d] ∧ ((d < 0 ∧ -2000 ≤ d) ∨ DvI d) ∧ ClsQ K H d Q
theorem uClasses {K : PySem.W.Frag} {H : Hp} {Q : VK} {E : XK} {vs : List V} {d : Int} (e : vs = [.int d]) (v : (d < 0 ∧ -2000 ≤ d) ∨ DvI d) (kk : ClsQ K H d Q) : spClasses K vs H Q E := ⟨d, e, v, kk⟩
theorem okClasses (T : Txt K mg fa fd) : FnOk P w K mg base CX0 4 (fa 38) (fd 38) ["d"] (spClasses K) := by
  refine T.F_classes.ok scClasses (fun vs H Q E h => ?_) (fun cdv A outer s H vs Q E hr h => ?_)
  · obtain ⟨d, rfl, v, kk⟩ := h
    rfl
  · obtain ⟨d, rfl, v, kk⟩ := h
    refine ⟨_, (pss_cons (ps_if (pt_cmp (pc_lt (pv 0) pe_int))
      (pss_one (ps_ret (pe_call (sp := spPositiveClasses K) (okPositiveClasses T) hr (by rfl) T.G_positive_classes T.F_positive_classes.kp T.B_positive_classes .nil pass0 (pa_cons (pv 0) pa_nil))))
      pss_nil)
      (pss_cons (ps_set (i := 1) scClasses.nd rfl (Or.inl rfl) (pe_lst pa_nil))
      (pss_cons (ps_set (i := 2) scClasses.nd rfl (Or.inl rfl) (pe_callTy0 (set0TQ P w) (by rfl) T.m_set (by decide +kernel)))
      (pss_cons (ps_for PassesOwn.never rfl (piL K (pe_call (sp := spReducedForms K) (okReducedForms T) hr (by rfl) T.G__reduced_forms T.F__reduced_forms.kp T.B__reduced_forms .nil pass0 (pa_cons (pv 0) pa_nil))) (pg_name (i := 3) scClasses.nd rfl (Or.inl rfl))
      (pss_one (ps_if (pt_cmpR (notInSTQ K P w (room65 hr)) (pv 3) (pv 2) (by with_unfolding_all rfl))
        (pss_cons (ps_expr (pe_bm PySem.F.plainAttrs_list PySem.F.slot_list_append PySem.F.type_list_append mt_append (pv 1) (pa_cons (pv 3) pa_nil)))
          (pss_one (ps_for PassesOwn.never rfl (piL K (pe_call (sp := spCycle K) (okCycle T) hr (by rfl) T.G_cycle T.F_cycle.kp T.B_cycle .nil pass0 (pa_cons (pv 3) pa_nil))) (pgT K 2 (by rfl) (pgs_cons (pg_name (i := 4) scClasses.nd rfl (Or.inl rfl)) (pgs_cons (pg_name (i := 5) scClasses.nd rfl (Or.inl rfl)) pgs_nil)))
          (pss_one (ps_expr (pe_saddTQ K P w hr.units (pv 2) (pa_cons (pv 4) pa_nil)))))))
        pss_nil)))
      (pss_one (ps_ret (pv 1))))))), ?_⟩
    have dd : -2000 ≤ d ∧ d ≤ 401 := by
      rcases v with ⟨d0, d1⟩ | v
      · exact ⟨d1, by omega⟩
      · exact ⟨by have := v.lo; omega, v.hi⟩
    obtain ⟨dd1, dd2⟩ := dd
    have bd : Bd 60 d := Bd.om (by omega)
    clean_wf
    rcases v with ⟨d0, d1⟩ | v
    · refine wayT d0 ?_
      clean_wf
      refine uPositiveClasses rfl d0 d1 ?_
      intro H' l ys sm nl hl tp
      clean_wf
      refine kk _ _ _ _ sm nl hl tp (asc_of (clsC_up d _).1) (fun z => ?_)
      rw [mem_clsC d0 d1]
      exact ⟨fun h => .inl ⟨d0, h⟩, fun h => h.elim (fun k => k.2) (fun k => absurd k.1 (by omega))⟩
    · refine wayF (by have := v.lo; omega) ?_
      clean_wf
      have hF := ht
      have nF := nn
      have s1 := sn
      clear sn ht nn
      generalize tn = tF at *
      generalize HN = H1 at *
      refine R.set0 (fun H2 tS s2 nS hS => ?_)
      have hF := s2 _ _ hF
      have fS : tF ≠ tS := by
        rintro rfl
        rw [hS] at hF
        cases hF
      clean_wf
      refine uReducedForms rfl v ?_
      intro H3 lR ysR s3 nR hR tR
      have nSH : H tS = none := by
        cases e : H tS with
        | none => rfl
        | some o =>
          rw [s1 _ _ e] at nS
          cases nS
      have fR : lR ≠ tF := by
        rintro rfl
        rw [hF] at nR
        cases nR
      have sR : lR ≠ tS := by
        rintro rfl
        rw [hS] at nR
        cases nR
      have hF := s3 _ _ hF
      have hS := s3 _ _ hS
      have s03 := (s1.trans s2).trans s3
      clear s1 s2 s3 nR nS
      refine R.refs (SqL.of hR) ?_
      have few := few_ok v
      have hup := rl_up d
      have hmem := fun z => mem_redI (d := d) v (t := z)
      have hlen := tR.len
      refine for_list (K := K) (a := lR) (xs := ysR) (fun i σ H' => ∃ (x3 x4 x5 : Option V) (zs : List V) (ts : List (List Int)) (L : List (Addr × List Int)), σ = [some (.int d), some (.ref tF), some (.ref tS), x3, x4, x5] ∧ Same H H' ∧ H' lR = some (.lst ysR) ∧
          Tps K H' ysR (RLd d) ∧ H' tF = some (.lst zs) ∧ Tps K H' zs ts ∧ H' tS = some (SetTO P w tS L) ∧ (∀ p ∈ L, SqT K H' p.1 (p.2.map V.int)) ∧ Asc ts ∧ (∀ z, z ∈ ts ↔ z ∈ (RLd d).take i ∧ ClI d z) ∧ (L.map (·.2)).Nodup ∧ (∀ z, z ∈ L.map (·.2) ↔ SnP d (RLd d) i z))
        ⟨_, _, _, [], [], [], rfl, s03, hR, tR, hF, .nil, hS, (fun p h => by cases h), ⟨List.Pairwise.nil, List.Pairwise.nil⟩, (fun z => by simp), List.Pairwise.nil, (fun z => ⟨(fun h => by cases h), (fun ⟨g, j, h, _⟩ => by rw [List.take_zero] at h; cases h)⟩)⟩
        (fun i σ H' hi hPv => ?_) (fun i x σ H' hx hPv => ?_) (fun σ H' hPv => ?_)
      · obtain ⟨x3, x4, x5, zs, ts, L, rfl, sm, h1, h2, h3, h4, h5, h6, h7, h8, h9, h10⟩ := hPv
        exact SqL.of h1
      · obtain ⟨x3, x4, x5, zs, ts, L, rfl, sm, h1, h2, h3, h4, h5, h6, h7, h8, h9, h10⟩ := hPv
        obtain ⟨af, t, rfl, hti, sf⟩ := h2.at hx
        obtain ⟨f, C, rfl⟩ := (hmem t).mp (List.mem_of_getElem? hti)
        have hsi := seen_iff v hti C
        have nFH : H tF = none := by
          cases e : H tF with
          | none => rfl
          | some o =>
            rw [e] at nF
            cases nF
        clean_wf
        refine R.notInST h5 h6 sf ?_
        by_cases hL : LsF d f
        · rw [decide_eq_false (fun hm => (hsi.mp ((h10 _).mp hm)) hL)]
          clean_wf
          refine R.app h3 (by have := h4.len; have := nodup_sub_len h7.2 (fun z hz => (hmem z).mpr (by obtain ⟨f, C, _, e⟩ := ((h8 z).mp hz).2; exact ⟨f, C, e⟩)); omega) (fun H4 e4 q3 => ?_)
          have kt4 : KT K H' H4 := by
            rw [e4]
            exact kt_off h3
          have q1 : H4 lR = some (.lst ysR) := by
            rw [e4, upd_ne fR]
            exact h1
          have q5 : H4 tS = some (SetTO P w tS L) := by
            rw [e4, upd_ne (fun z => fS z.symm)]
            exact h5
          have sm4 : Same H H4 := by
            rw [e4]
            exact same_mut sm nFH
          have q2 := h2.kt kt4
          have sf4 := kt4 _ _ sf
          have q4 : Tps K H4 (zs ++ [.ref af]) (ts ++ [fL f]) := (h4.kt kt4).snoc sf4
          have q6 : ∀ p ∈ L, SqT K H4 p.1 (p.2.map V.int) := fun p hp => kt4 _ _ (h6 p hp)
          have q7 : Asc (ts ++ [fL f]) := asc_snoc h7 fun z hz => ((lt_take hup hti).mp ((h8 z).mp hz).1).2
          have q8 : ∀ z, z ∈ ts ++ [fL f] ↔ z ∈ (RLd d).take (i + 1) ∧ ClI d z := fun z => by
            rw [in_take hti, List.mem_append, List.mem_singleton, h8]
            constructor
            · rintro (⟨k1, k2⟩ | rfl)
              · exact ⟨.inl k1, k2⟩
              · exact ⟨.inr rfl, cl_self.mpr ⟨C, hL⟩⟩
            · rintro ⟨k1 | k1, k2⟩
              · exact .inl ⟨k1, k2⟩
              · exact .inr k1
          clear e4 kt4 h1 h2 h3 h4 h5 h6 h7 h8 sm sf hx
          obtain ⟨k, cy, hk⟩ := ring_ok C.1 C.2.1 (by have := v.hi; omega)
          have sn1 := fun z => seen_new hti C z
          have FR := C.1
          have RR := C.2.1
          obtain ⟨a, b, c⟩ := f
          repeat' (first
            | with_reducible apply R.var
            | with_reducible apply R.gsE
            | ((with_reducible apply R.gsN); (focus exact rfl))
            | with_reducible apply R.lenS
            | ((with_reducible apply R.lenB); exact rfl)
            | ((with_reducible apply R.isEq); exact rfl)
            | with_reducible apply R.op
            | with_reducible apply R.i2
            | with_reducible apply R.i0
            | with_reducible apply R.con
            | with_reducible apply R.cons
            | with_reducible apply R.nil
            | ((with_reducible apply R.gBd); first | with_reducible assumption | with_reducible apply Bd.mul | with_reducible apply Bd.add | with_reducible apply Bd.sub | ((with_reducible apply Bd.l8); exact eq_true (by decide)) | ((with_reducible apply Bd.lit); exact eq_true (by decide)) | with_reducible apply Bd.neg | with_reducible apply Bd.div | with_reducible apply Bd.abs | with_reducible apply Bd.mod | with_reducible apply Bd.fdiv | ((with_reducible apply Bd.om); omega))
            | with_reducible apply Bd.mulW
            | ((with_reducible apply R.gSqT); first | with_reducible assumption | ((with_reducible apply SqT.of); with_reducible assumption) | ((with_reducible apply same_seqT); with_reducible assumption) | ((with_reducible apply kp_seqT); with_reducible assumption) | with_reducible apply hU)
            | ((with_reducible apply R.isLe); first | decide | omega)
            | with_reducible apply R.gcons
            | with_reducible apply R.gname
            | ((with_reducible apply R.ixT); (focus ((repeat' (first | with_reducible assumption | with_reducible apply hU | ((with_reducible apply SqT.of); with_reducible assumption) | ((with_reducible apply same_seqT); with_reducible assumption) | ((with_reducible apply kp_seqT); with_reducible assumption) | ((with_reducible apply Dw.same); with_reducible assumption))); done)); exact rfl)
            | ((with_reducible apply R.ixL); (focus ((repeat' (first | with_reducible assumption | ((with_reducible apply SqL.of); with_reducible assumption) | ((with_reducible apply Same.seq); with_reducible assumption) | ((with_reducible apply Kp.seqL); with_reducible assumption) | ((with_reducible apply fresh_ne); with_reducible assumption) | ((with_reducible apply Dw.same); with_reducible assumption))); done)); exact rfl)
            | with_reducible apply R.test
            | with_reducible apply R.tb'
            | with_reducible apply R.isbl
            | with_reducible apply R.cmp
            | with_reducible apply R.t2i
            | with_reducible apply R.intp
            | with_reducible apply R.ifs
            | with_reducible apply R.asg
            | with_reducible apply R.seq
            | with_reducible apply R.gtup
            | with_reducible apply R.u1
            | with_reducible apply R.un
            | with_reducible apply R.ret
            | with_reducible apply R.next
            | with_reducible apply R.call
            | with_reducible apply iteT
            | with_reducible apply iteF
            | with_reducible assumption
            | with_reducible apply R.tup
            | with_reducible apply R.lst
            | with_reducible apply R.callB
            | with_reducible apply R.gnil
            | with_reducible apply R.brk
            | with_reducible apply R.cont
            | with_reducible apply R.drop
            | with_reducible apply R.par
            | with_reducible apply R.par2
            | with_reducible apply R.par3
            | with_reducible apply R.par4
            | with_reducible apply R.tif
            | with_reducible apply R.and
            | with_reducible apply R.or
            | with_reducible apply R.not
            | with_reducible apply R.andV
            | with_reducible apply R.orV
            | with_reducible apply R.notV
            | with_reducible apply R.chain
            | with_reducible apply R.tupL
            | with_reducible apply R.lstL
            | with_reducible apply R.cat
            | with_reducible apply R.absI
            | with_reducible apply R.intI
            | with_reducible apply R.intB
            | with_reducible apply R.eqS
            | with_reducible apply R.eqBl
            | with_reducible apply R.neBl
            | with_reducible apply R.sl
            | with_reducible apply R.noPart
            | with_reducible apply R.part
            | with_reducible apply R.isInt
            | with_reducible apply R.slL
            | with_reducible apply R.isiT
            | with_reducible apply R.isiLst
            | with_reducible apply R.nwT
            | with_reducible apply R.nwL
            | ((with_reducible apply R.mt); intro HN tn sn nn ht)
            | ((with_reducible apply R.ml); intro HN tn sn nn ht)
            | ((with_reducible apply R.isiTupS); focus ((repeat' (first | with_reducible assumption | with_reducible apply hU | ((with_reducible apply SqT.of); with_reducible assumption) | ((with_reducible apply same_seqT); with_reducible assumption) | ((with_reducible apply kp_seqT); with_reducible assumption) | ((with_reducible apply Dw.same); with_reducible assumption))); done))
            | ((with_reducible apply R.ne4); focus ((repeat' (first | with_reducible assumption | with_reducible apply hU | ((with_reducible apply SqT.of); with_reducible assumption) | ((with_reducible apply same_seqT); with_reducible assumption) | ((with_reducible apply kp_seqT); with_reducible assumption) | ((with_reducible apply Dw.same); with_reducible assumption))); done))
            | ((with_reducible apply R.ne3); focus ((repeat' (first | with_reducible assumption | with_reducible apply hU | ((with_reducible apply SqT.of); with_reducible assumption) | ((with_reducible apply same_seqT); with_reducible assumption) | ((with_reducible apply kp_seqT); with_reducible assumption) | ((with_reducible apply Dw.same); with_reducible assumption))); done))
            | ((with_reducible apply R.ne2); focus ((repeat' (first | with_reducible assumption | with_reducible apply hU | ((with_reducible apply SqT.of); with_reducible assumption) | ((with_reducible apply same_seqT); with_reducible assumption) | ((with_reducible apply kp_seqT); with_reducible assumption) | ((with_reducible apply Dw.same); with_reducible assumption))); done))
            | ((with_reducible apply R.eq4); focus ((repeat' (first | with_reducible assumption | with_reducible apply hU | ((with_reducible apply SqT.of); with_reducible assumption) | ((with_reducible apply same_seqT); with_reducible assumption) | ((with_reducible apply kp_seqT); with_reducible assumption) | ((with_reducible apply Dw.same); with_reducible assumption))); done))
            | ((with_reducible apply R.eq3); focus ((repeat' (first | with_reducible assumption | with_reducible apply hU | ((with_reducible apply SqT.of); with_reducible assumption) | ((with_reducible apply same_seqT); with_reducible assumption) | ((with_reducible apply kp_seqT); with_reducible assumption) | ((with_reducible apply Dw.same); with_reducible assumption))); done))
            | ((with_reducible apply R.eq2); focus ((repeat' (first | with_reducible assumption | with_reducible apply hU | ((with_reducible apply SqT.of); with_reducible assumption) | ((with_reducible apply same_seqT); with_reducible assumption) | ((with_reducible apply kp_seqT); with_reducible assumption) | ((with_reducible apply Dw.same); with_reducible assumption))); done))
            | ((with_reducible apply R.nw); intro HN tn sn ht)
            | with_reducible apply R.notT
            | with_reducible apply R.notF
            | ((with_reducible apply SqL.of); with_reducible assumption)
            | ((with_reducible apply sameB); with_reducible assumption)
            | ((with_reducible apply same_at); with_reducible assumption)
            | ((with_reducible apply Same.seq); with_reducible assumption)
            | ((with_reducible apply Kp.seqL); with_reducible assumption)
            | ((with_reducible apply fresh_ne); with_reducible assumption)
            | ((with_reducible apply Dw.same); with_reducible assumption)
            | ((with_reducible apply R.isEq); exact eq_true (by first | decide | omega))
            | ((with_reducible apply R.isLt); first | decide | omega)
            | ((with_reducible apply R.isLtI); first | decide | omega)
            | ((with_reducible apply R.isLeI); first | decide | omega)
            | ((with_reducible apply R.cdiv); exact rfl)
            | ((with_reducible apply R.cpow); exact rfl)
            | with_reducible apply R.cdivX
            | ((with_reducible apply R.isNe); omega)
            | ((with_reducible apply wayNF); first | exact rfl | exact ⟨rfl, rfl⟩ | exact ⟨rfl, rfl, rfl⟩ | exact ⟨rfl, rfl, rfl, rfl⟩)
            | with_reducible apply R.bm
            | ((with_reducible apply R.bmT); (focus ((first | with_reducible assumption | ((with_reducible apply same_at); with_reducible assumption) | ((with_reducible apply kp_at); with_reducible assumption)); done)))
            | with_reducible apply R.dput
            | with_reducible apply R.dget
            | with_reducible apply R.din
            | with_reducible apply R.dget2
            | with_reducible apply R.forE
            | with_reducible apply R.rng1
            | with_reducible apply R.rng2
            | with_reducible apply R.rg1
            | with_reducible apply R.rg2
            | with_reducible apply R.lcE
            | with_reducible apply R.itup
            | with_reducible apply R.ilst
            | with_reducible apply uLawNext
            | with_reducible apply uLawChange
            | with_reducible apply uMultiply
            | with_reducible apply uDeterminant
            | with_reducible apply uNegative
            | with_reducible apply uLawMul
            | with_reducible apply uLawWorth
            | with_reducible apply uWorth
            | with_reducible apply uScaled
            | with_reducible apply uDiscriminant
            | with_reducible apply uInverse
            | with_reducible apply uAct
            | with_reducible apply uLawAct
            | with_reducible apply uScaled
            | with_reducible apply uLawSquare
            | with_reducible apply uLawRoot
            | with_reducible apply uFloorRoot
            | with_reducible apply uIsReducedDefinite
            | with_reducible apply uStepDown
            | with_reducible apply uScaled
            | with_reducible apply uIsReducedIndefinite
            | with_reducible apply uStepOf
            | with_reducible apply uStepNear
            | with_reducible apply uDirected
            | with_reducible apply uCompleted
            | with_reducible apply uBezout
            | with_reducible apply uFloorRoot
            | with_reducible apply uDiscriminant
            | with_reducible apply uContent
            | with_reducible apply uFlatParts
            | with_reducible apply uKind
            | with_reducible apply uIsSquare
            | fail
            )
          refine uCycle rfl sf4 FR RR cy hk ?_
          intro H5 lC ysC s5 nC hC pC
          have cF : lC ≠ tF := by
            rintro rfl
            rw [q3] at nC
            cases nC
          have cS : lC ≠ tS := by
            rintro rfl
            rw [q5] at nC
            cases nC
          refine R.refs (SqL.of hC) ?_
          have hcl := pC.len
          rw [ringP_len] at hcl
          refine for_list (K := K) (a := lC) (xs := ysC) (fun j σ H' => ∃ (x4 x5 : Option V) (L : List (Addr × List Int)), σ = [some (.int d), some (.ref tF), some (.ref tS), some (.ref af), x4, x5] ∧ Same H H' ∧ H' lR = some (.lst ysR) ∧
              Tps K H' ysR (RLd d) ∧ H' tF = some (.lst (zs ++ [.ref af])) ∧ Tps K H' (zs ++ [.ref af]) (ts ++ [fL (a, b, c)]) ∧ H' tS = some (SetTO P w tS L) ∧ (∀ p ∈ L, SqT K H' p.1 (p.2.map V.int)) ∧ (L.map (·.2)).Nodup ∧
              (∀ z, z ∈ L.map (·.2) ↔ SnP d (RLd d) i z ∨ ∃ n, n < j ∧ z = fL (rhoN d n (a, b, c))) ∧ H' lC = some (.lst ysC) ∧ Pps K H' ysC (ringP d (a, b, c) (k + 1)))
            ⟨_, _, L, rfl, sm4.trans s5, s5 _ _ q1, q2.same s5, s5 _ _ q3, q4.same s5, s5 _ _ q5, (fun p hp => same_seqT s5 (q6 p hp)), h9, (fun z => by rw [h10]; exact ⟨.inl, fun h => h.elim id (fun ⟨n, hn, _⟩ => absurd hn (Nat.not_lt_zero _))⟩), hC, pC⟩
            (fun j σ H' hj hPv => ?_) (fun j x σ H' hx hPv => ?_) (fun σ H' hPv => ?_)
          · obtain ⟨x4, x5, L, rfl, sm, h1, h2, h3, h4, h5, h6, h9, h10, hC, pC⟩ := hPv
            exact SqL.of hC
          · clear q1 q2 q3 q4 q5 q6 s5 nC hC pC sm4 h9 h10
            obtain ⟨x4, x5, L, rfl, sm, h1, h2, h3, h4, h5, h6, h9, h10, hC, pC⟩ := hPv
            obtain ⟨ax, u, v', f', m, rfl, hat, sx, su, sv⟩ := pC.at hx
            obtain ⟨hi, e⟩ := ringP_at hat
            injection e with ef em
            rw [ef] at su
            clear hat ef em
            clean_wf
            refine R.saddE ?_
            clean_wf
            refine R.saddO h5 h6 ?_
            clean_wf
            refine R.sadd h5 h6 su ?_ (fun L6 H6 e6 q5 m6 n6 q6 => ?_)
            · have := nodup_sub_len h9 (fun z hz => (hmem z).mpr (by
                rcases (h10 z).mp hz with ⟨g, n, _, G, e⟩ | ⟨n, _, e⟩
                · exact ⟨_, rcF_rho G n, e⟩
                · exact ⟨_, rcF_rho C n, e⟩))
              rw [List.length_map] at this
              omega
            have kt6 : KT K H' H6 := by
              rw [e6]
              exact kt_set h5
            refine ⟨_, _, L6, rfl, ?_, ?_, h2.kt kt6, ?_, h4.kt kt6, q5, q6, n6, fun z => ?_, ?_, pC.kt kt6⟩
            · rw [e6]
              exact same_mut sm nSH
            · rw [e6, upd_ne sR]
              exact h1
            · rw [e6, upd_ne fS]
              exact h3
            · rw [m6, h10]
              constructor
              · rintro (e | e | ⟨n, hn, e⟩)
                · exact .inr ⟨j, Nat.lt_succ_self j, e⟩
                · exact .inl e
                · exact .inr ⟨n, Nat.lt_succ_of_lt hn, e⟩
              · rintro (e | ⟨n, hn, e⟩)
                · exact .inr (.inl e)
                · rcases Nat.lt_or_ge n j with y | y
                  · exact .inr (.inr ⟨n, y, e⟩)
                  · have : n = j := by omega
                    subst this
                    exact .inl e
            · rw [e6, upd_ne cS]
              exact hC
          · clear q1 q2 q3 q4 q5 q6 s5 nC hC pC sm4 h9 h10
            obtain ⟨x4, x5, L, rfl, sm, h1, h2, h3, h4, h5, h6, h9, h10, hC, pC⟩ := hPv
            clean_wf
            refine ⟨_, _, _, _, _, L, rfl, sm, h1, h2, h3, h4, h5, h6, q7, q8, h9, fun z => ?_⟩
            rw [h10, sn1, hcl]
            refine ⟨fun h => h.imp id (fun ⟨n, _, e⟩ => ⟨n, e⟩), fun h => h.imp id (fun ⟨n, e⟩ => ⟨n % (k + 1), Nat.mod_lt _ cy.n0, ?_⟩)⟩
            rw [cy.mod]
            exact e
        · rw [decide_eq_true ((h10 _).mpr (hsi.mpr hL))]
          clean_wf
          refine ⟨_, _, _, zs, ts, L, rfl, sm, h1, h2, h3, h4, h5, h6, h7, fun z => ?_, h9, fun z => ?_⟩
          · rw [in_take hti, h8]
            refine ⟨fun k => ⟨.inl k.1, k.2⟩, fun k => ⟨k.1.elim id ?_, k.2⟩⟩
            rintro rfl
            exact absurd (cl_self.mp k.2).2 hL
          · rw [h10, seen_old hti C (hsi.mpr hL)]
      · obtain ⟨x3, x4, x5, zs, ts, L, rfl, sm, h1, h2, h3, h4, h5, h6, h7, h8, h9, h10⟩ := hPv
        clean_wf
        refine kk _ _ zs ts sm ?_ h3 h4 h7 (fun z => ?_)
        · cases e : H tF with
          | none => rfl
          | some o =>
            rw [e] at nF
            cases nF
        · rw [h8, hlen, List.take_length, hmem]
          refine ⟨fun k => .inr ⟨v.lo, k.2⟩, fun k => ?_⟩
          rcases k with ⟨k, _⟩ | ⟨_, k⟩
          · have := v.lo
            omega
          · refine ⟨?_, k⟩
            obtain ⟨f, C, _, e⟩ := k
            exact ⟨f, C, e⟩
def spPrincipal (K : PySem.W.Frag) : Sp := fun vs H Q _ => ∃ (d : Int) (S : Srt), vs = [.int d] ∧ d.natAbs ≤ 10000 ∧ InS S (1, d % 2, (d % 2 - d) / 4) ∧ ∀ H' t x y z, Same H H' → SqT K H' t [.int x, .int y, .int z] → CnS S (1, d % 2, (d % 2 - d) / 4) (x, y, z) → Q (.ref t) H'
theorem uPrincipal {K : PySem.W.Frag} {H : Hp} {Q : VK} {E : XK} {vs : List V} {d : Int} {S : Srt} (e : vs = [.int d]) (b : d.natAbs ≤ 10000) (I : InS S (1, d % 2, (d % 2 - d) / 4))
    (kk : ∀ H' t x y z, Same H H' → SqT K H' t [.int x, .int y, .int z] → CnS S (1, d % 2, (d % 2 - d) / 4) (x, y, z) → Q (.ref t) H') : spPrincipal K vs H Q E := ⟨d, S, e, b, I, kk⟩
theorem okPrincipal (T : Txt K mg fa fd) : FnOk P w K mg base CX0 11 (fa 40) (fd 40) ["d"] (spPrincipal K) := by
  refine T.F_principal.ok scPrincipal (fun vs H Q E h => ?_) (fun cdv A outer s H vs Q E hr h => ?_)
  · obtain ⟨d, S, rfl, b, I, kk⟩ := h
    rfl
  · obtain ⟨d, S, rfl, b, I, kk⟩ := h
    refine ⟨_, (pss_one (ps_ret (pe_ix (ixT K) (pe_call (sp := spCanonicalForm K) (okCanonicalForm T) hr (by rfl) T.G_canonical_form T.F_canonical_form.kp T.B_canonical_form .nil pass0 (pa_cons (pe_tup (pa_cons pe_int (pa_cons (pe_op op_mod (pv 0) pe_int) (pa_cons (pe_op op_fdivX (pe_op op_sub (pe_op op_mod (pv 0) pe_int) (pv 0)) pe_int) pa_nil)))) pa_nil)) pe_int (fun _ _ => rfl)))), ?_⟩
    have bd : Bd 60 d := Bd.om (by omega)
    clean_wf
    rw [Int.fdiv_eq_ediv_of_nonneg (d % 2 - d) (show (0 : Int) ≤ 4 by decide)] at ht
    have hs := SqT.of (K := K) ht
    have s1 := sn
    clear ht nn sn
    generalize tn = tf at *
    generalize HN = H1 at *
    refine uCanonicalForm rfl hs I (by decide) (by omega) (by omega) ?_
    intro H' t tf2 tm x y z p q r s s2 ht st sm C
    clean_wf
    exact kk _ _ _ _ _ (s1.trans s2) st C.cn
def spOpposite (K : PySem.W.Frag) : Sp := fun vs H Q _ => ∃ (af : Addr) (a b c : Int) (S : Srt), vs = [.ref af] ∧ SqT K H af [.int a, .int b, .int c] ∧ a.natAbs ≤ 274877906944 ∧ b.natAbs ≤ 274877906944 ∧ c.natAbs ≤ 274877906944 ∧ InS S (a, -b, c) ∧ ∀ H' t x y z, Same H H' → SqT K H' t [.int x, .int y, .int z] → CnS S (a, -b, c) (x, y, z) → Q (.ref t) H'
theorem uOpposite {K : PySem.W.Frag} {H : Hp} {Q : VK} {E : XK} {vs : List V} {af : Addr} {a b c : Int} {S : Srt} (e : vs = [.ref af]) (hs : SqT K H af [.int a, .int b, .int c]) (b1 : a.natAbs ≤ 274877906944) (b2 : b.natAbs ≤ 274877906944) (b3 : c.natAbs ≤ 274877906944) (I : InS S (a, -b, c))
    (kk : ∀ H' t x y z, Same H H' → SqT K H' t [.int x, .int y, .int z] → CnS S (a, -b, c) (x, y, z) → Q (.ref t) H') : spOpposite K vs H Q E := ⟨af, a, b, c, S, e, hs, b1, b2, b3, I, kk⟩
theorem okOpposite (T : Txt K mg fa fd) : FnOk P w K mg base CX0 11 (fa 41) (fd 41) ["form"] (spOpposite K) := by
  refine T.F_opposite.ok scOpposite (fun vs H Q E h => ?_) (fun cdv A outer s H vs Q E hr h => ?_)
  · obtain ⟨af, a, b, c, S, rfl, hs, b1, b2, b3, I, kk⟩ := h
    rfl
  · obtain ⟨af, a, b, c, S, rfl, hs, b1, b2, b3, I, kk⟩ := h
    refine ⟨_, (pss_cons (ps_asg (pv 0) (pgT K 3 (by rfl) (pgs_cons (pg_name (i := 1) scOpposite.nd rfl (Or.inl rfl)) (pgs_cons (pg_name (i := 2) scOpposite.nd rfl (Or.inl rfl)) (pgs_cons (pg_name (i := 3) scOpposite.nd rfl (Or.inl rfl)) pgs_nil)))))
      (pss_one (ps_ret (pe_ix (ixT K) (pe_call (sp := spCanonicalForm K) (okCanonicalForm T) hr (by rfl) T.G_canonical_form T.F_canonical_form.kp T.B_canonical_form .nil pass0 (pa_cons (pe_tup (pa_cons (pv 1) (pa_cons (pe_un un_neg (pv 2)) (pa_cons (pv 3) pa_nil)))) pa_nil)) pe_int (fun _ _ => rfl))))), ?_⟩
    clean_wf
    have hs := SqT.of (K := K) ht
    have s1 := sn
    clear ht nn sn
    generalize tn = tf at *
    generalize HN = H1 at *
    refine uCanonicalForm rfl hs I b1 (by omega) b3 ?_
    intro H' t tf2 tm x y z p q r s s2 ht st sm C
    clean_wf
    exact kk _ _ _ _ _ (s1.trans s2) st C.cn
def spUnitingSteps (K : PySem.W.Frag) : Sp := fun vs H Q _ => ∃ (af ao : Addr) (a b c a2 b2 c2 : Int), vs = [.ref af, .ref ao] ∧ SqT K H af [.int a, .int b, .int c] ∧ SqT K H ao [.int a2, .int b2, .int c2] ∧ gI a a2 = 1 ∧ a2 ≠ 0 ∧ (b2 - b) % 2 = 0 ∧ Bd 50 a ∧ Bd 50 b ∧ Bd 50 a2 ∧ Bd 9600 b2 ∧
  ∀ H' t t1 t2 n k, Same H H' → H' t = some (.tup [.ref t1, .ref t2]) → SqT K H' t1 [.int 1, .int n, .int 0, .int 1] → SqT K H' t2 [.int 1, .int k, .int 0, .int 1] → b + 2 * a * n = b2 + 2 * a2 * k → 0 ≤ n → n < (a2.natAbs : Int) → Q (.ref t) H'
theorem uUnitingSteps {K : PySem.W.Frag} {H : Hp} {Q : VK} {E : XK} {vs : List V} {af ao : Addr} {a b c a2 b2 c2 : Int} (e : vs = [.ref af, .ref ao]) (s1 : SqT K H af [.int a, .int b, .int c]) (s2 : SqT K H ao [.int a2, .int b2, .int c2]) (g : gI a a2 = 1) (h0 : a2 ≠ 0) (h2 : (b2 - b) % 2 = 0) (x1 : Bd 50 a) (x2 : Bd 50 b) (x3 : Bd 50 a2) (x4 : Bd 9600 b2)
    (kk : ∀ H' t t1 t2 n k, Same H H' → H' t = some (.tup [.ref t1, .ref t2]) → SqT K H' t1 [.int 1, .int n, .int 0, .int 1] → SqT K H' t2 [.int 1, .int k, .int 0, .int 1] → b + 2 * a * n = b2 + 2 * a2 * k → 0 ≤ n → n < (a2.natAbs : Int) → Q (.ref t) H') : spUnitingSteps K vs H Q E := ⟨af, ao, a, b, c, a2, b2, c2, e, s1, s2, g, h0, h2, x1, x2, x3, x4, kk⟩
theorem okUnitingSteps (T : Txt K mg fa fd) : FnOk P w K mg base CX0 2 (fa 43) (fd 43) ["form", "other"] (spUnitingSteps K) := by
  refine T.F__uniting_steps.ok scUnitingSteps (fun vs H Q E h => ?_) (fun cdv A outer s H vs Q E hr h => ?_)
  · obtain ⟨af, ao, a, b, c, a2, b2, c2, rfl, s1, s2, g, h0, h2, x1, x2, x3, x4, kk⟩ := h
    rfl
  · obtain ⟨af, ao, a, b, c, a2, b2, c2, rfl, s1, s2, g, h0, h2, x1, x2, x3, x4, kk⟩ := h
    refine ⟨_, (pss_cons (ps_asg (pv 0) (pgT K 3 (by rfl) (pgs_cons (pg_name (i := 2) scUnitingSteps.nd rfl (Or.inl rfl)) (pgs_cons (pg_name (i := 3) scUnitingSteps.nd rfl (Or.inl rfl)) (pgs_cons (pg_name (i := 4) scUnitingSteps.nd rfl (Or.inl rfl)) pgs_nil)))))
      (pss_cons (ps_asg (pv 1) (pgT K 3 (by rfl) (pgs_cons (pg_name (i := 5) scUnitingSteps.nd rfl (Or.inl rfl)) (pgs_cons (pg_name (i := 6) scUnitingSteps.nd rfl (Or.inl rfl)) (pgs_cons (pg_name (i := 4) scUnitingSteps.nd rfl (Or.inl rfl)) pgs_nil)))))
      (pss_cons (ps_asg (pe_call (sp := spBezout K) (okBezout T) hr (by rfl) T.G_bezout T.F_bezout.kp T.B_bezout .nil pass0 (pa_cons (pv 2) (pa_cons (pv 5) pa_nil))) (pgT K 3 (by rfl) (pgs_cons (pg_name (i := 4) scUnitingSteps.nd rfl (Or.inl rfl)) (pgs_cons (pg_name (i := 7) scUnitingSteps.nd rfl (Or.inl rfl)) (pgs_cons (pg_name (i := 4) scUnitingSteps.nd rfl (Or.inl rfl)) pgs_nil)))))
      (pss_cons (ps_set (i := 8) scUnitingSteps.nd rfl (Or.inl rfl) (pe_op op_modN (pe_op op_mulW (pv 7) (pe_op op_fdivX (pe_op op_sub (pv 6) (pv 3)) pe_int)) (pe_callB (absQ K) (by rfl) T.m_abs (by decide +kernel) (pa_cons (pv 5) pa_nil))))
      (pss_one (ps_ret (pe_tup (pa_cons (pe_tup (pa_cons pe_int (pa_cons (pv 8) (pa_cons pe_int (pa_cons pe_int pa_nil))))) (pa_cons (pe_tup (pa_cons pe_int (pa_cons (pe_op op_fdivX (pe_op op_sub (pe_op op_add (pv 3) (pe_op op_mulW (pe_op op_mulW pe_int (pv 2)) (pv 8))) (pv 6)) (pe_op op_mulW pe_int (pv 5))) (pa_cons pe_int (pa_cons pe_int pa_nil))))) pa_nil))))))))), ?_⟩
    have b1' : a.natAbs < 1152921504606846976 := Nat.lt_trans x1 (by decide)
    have b2' : a2.natAbs < 1152921504606846976 := Nat.lt_trans x3 (by decide)
    clean_wf
    intro H1 tz u v sm1 hz e bu bv
    rw [g] at e
    obtain ⟨n, en, n0, n1, eq⟩ := unite e h0 h2
    have bh : Bd 9700 ((b2 - b).fdiv 2) := by
      rw [Int.fdiv_eq_ediv_of_nonneg _ (show (0 : Int) ≤ 2 by decide)]
      have y := (x4.sub (x2.mono (show 50 ≤ 9600 by decide))).mono (show _ ≤ 9700 by decide)
      exact Nat.lt_of_le_of_lt (show ((b2 - b) / 2).natAbs ≤ (b2 - b).natAbs by omega) y
    have y3 : a2.natAbs < 1125899906842624 := x3
    have bn : Bd 50 n := by
      show n.natAbs < 1125899906842624
      omega
    have z0 : 2 * a2 ≠ 0 := by omega
    have b2a : Bd 60 (2 * a2) := Bd.om (by omega)
    have cdx : ∀ x, CDivX x (2 * a2) := fun x => ⟨z0, b2a.mono (by decide)⟩
    clean_wf
    rename_i Ha ta sa na hta Hb tb sb nb htb
    rw [en] at hta htb
    exact kk _ _ _ _ n _ (sm1.trans ((sa.trans sb).trans sn)) ht (SqT.of ((sb.trans sn) _ _ hta)) (SqT.of (sn _ _ htb)) eq n0 n1
def spRowBefore (K : PySem.W.Frag) : Sp := fun vs H Q _ => ∃ (ar am an : Addr) (r m n : M4), vs = [.ref ar, .ref am, .ref an] ∧ SqT K H ar ((mL r).map V.int) ∧ SqT K H am ((mL m).map V.int) ∧ SqT K H an ((mL n).map V.int) ∧ BdM 62 r ∧ BdM 37000 m ∧ BdM 56500 n ∧
  ∀ H' t, Same H H' → SqT K H' t ((mL (ch2 n (ch1 m r))).map V.int) → Q (.ref t) H'
theorem okRowBefore (T : Txt K mg fa fd) : FnOk P w K mg base CX0 2 (fa 44) (fd 44) ["row", "m", "n"] (spRowBefore K) := by
  refine T.F__row_before.ok scRowBefore (fun vs H Q E h => ?_) (fun cdv A outer s H vs Q E hr h => ?_)
  · obtain ⟨ar, am, an, ⟨r0, r1, r2, r3⟩, ⟨m1, m2, m3, m4⟩, ⟨n1, n2, n3, n4⟩, rfl, sr, sm, sn0, br, bm, bn, kk⟩ := h
    rfl
  · obtain ⟨ar, am, an, ⟨r0, r1, r2, r3⟩, ⟨m1, m2, m3, m4⟩, ⟨n1, n2, n3, n4⟩, rfl, sr, sm, sn0, br, bm, bn, kk⟩ := h
    refine ⟨_, (pss_cons (ps_asg (pv 1) (pgT K 4 (by rfl) (pgs_cons (pg_name (i := 3) scRowBefore.nd rfl (Or.inl rfl)) (pgs_cons (pg_name (i := 4) scRowBefore.nd rfl (Or.inl rfl)) (pgs_cons (pg_name (i := 5) scRowBefore.nd rfl (Or.inl rfl)) (pgs_cons (pg_name (i := 6) scRowBefore.nd rfl (Or.inl rfl)) pgs_nil))))))
      (pss_one (ps_ret (pe_call (sp := spMultiply K) (okMultiply T) hr (by rfl) T.G_multiply T.F_multiply.kp T.B_multiply .nil pass0 (pa_cons (pe_call (sp := spMultiply K) (okMultiply T) hr (by rfl) T.G_multiply T.F_multiply.kp T.B_multiply .nil pass0 (pa_cons (pe_tup (pa_cons (pv 3) (pa_cons (pv 5) (pa_cons (pv 4) (pa_cons (pv 6) pa_nil))))) (pa_cons (pv 0) pa_nil))) (pa_cons (pv 2) pa_nil)))))), ?_⟩
    obtain ⟨br0, br1, br2, br3⟩ := br
    obtain ⟨bm1, bm2, bm3, bm4⟩ := bm
    obtain ⟨bn1, bn2, bn3, bn4⟩ := bn
    dsimp only at br0 br1 br2 br3 bm1 bm2 bm3 bm4 bn1 bn2 bn3 bn4
    have sr : SqT K H ar [.int r0, .int r1, .int r2, .int r3] := sr
    have sm : SqT K H am [.int m1, .int m2, .int m3, .int m4] := sm
    have sn0 : SqT K H an [.int n1, .int n2, .int n3, .int n4] := sn0
    clean_wf
    refine kk _ _ (by array_mem_dec) ?_
    rw [ch2_eq]
    exact SqT.of ht
def spSumOfRows (K : PySem.W.Frag) : Sp := fun vs H Q _ => ∃ (ar ao : Addr) (s t : Int) (p q : M4), vs = [.int s, .ref ar, .int t, .ref ao] ∧ SqT K H ar ((mL p).map V.int) ∧ SqT K H ao ((mL q).map V.int) ∧ BdM 93700 p ∧ BdM 93700 q ∧ Bd 37000 s ∧ Bd 37000 t ∧
  ∀ H' x, Same H H' → SqT K H' x ((mL (lin s t p q)).map V.int) → Q (.ref x) H'
theorem okSumOfRows (T : Txt K mg fa fd) : FnOk P w K mg base CX0 1 (fa 45) (fd 45) ["number", "row", "other_number", "other_row"] (spSumOfRows K) := by
  refine T.F__sum_of_rows.ok scSumOfRows (fun vs H Q E h => ?_) (fun cdv A outer s H vs Q E hr h => ?_)
  · obtain ⟨ar, ao, s9, t9, ⟨p0, p1, p2, p3⟩, ⟨q0, q1, q2, q3⟩, rfl, sp0, sq0, bp, bq, bs, bt, kk⟩ := h
    rfl
  · obtain ⟨ar, ao, s9, t9, ⟨p0, p1, p2, p3⟩, ⟨q0, q1, q2, q3⟩, rfl, sp0, sq0, bp, bq, bs, bt, kk⟩ := h
    refine ⟨_, (pss_one (ps_ret (pe_callTy (tupQ K) (by rfl) T.m_tuple (by decide +kernel) (pa_cons (pe_lc (own := [("part", 4), ("other_part", 5)])  (tt := tYes) rfl scSumOfRows.nd (piZipA K (by rfl) T.m_zip (pa_cons (pv 1) (pa_cons (pv 3) pa_nil))) (blkOk_by (own := [("part", 4), ("other_part", 5)]) (N := ["number", "row", "other_number", "other_row", "part", "other_part"]) (sc := defScope sSumOfRows) (by decide +kernel)) (fun _ _ _ _ _ => (pgT K 2 (by rfl) (pgs_cons (pg_name (i := 4) scSumOfRows.nd rfl (Or.inl rfl)) (pgs_cons (pg_name (i := 5) scSumOfRows.nd rfl (Or.inl rfl)) pgs_nil)))) (fun _ _ _ _ _ => pts_nil) (fun _ _ _ _ _ => (pe_op op_add (pe_op op_mulW (pv 0) (pv 4)) (pe_op op_mulW (pv 2) (pv 5))))) pa_nil)))), ?_⟩
    obtain ⟨bp0, bp1, bp2, bp3⟩ := bp
    obtain ⟨bq0, bq1, bq2, bq3⟩ := bq
    dsimp only at bp0 bp1 bp2 bp3 bq0 bq1 bq2 bq3
    have sp0 : SqT K H ar [.int p0, .int p1, .int p2, .int p3] := sp0
    have sq0 : SqT K H ao [.int q0, .int q1, .int q2, .int q3] := sq0
    clean_wf
    refine R.zipE ?_
    clean_wf
    refine ⟨_, _, _, _, rfl, .inr ⟨sp0, sq0, ?_⟩⟩
    refine R.lcZ (xs := [.int p0, .int p1, .int p2, .int p3]) (ys := [.int q0, .int q1, .int q2, .int q3]) (fun i => ((mL (lin s9 t9 (p0, p1, p2, p3) (q0, q1, q2, q3))).map V.int).getD i .non) rfl (by show 4 ≤ 1000; decide) sp0 sq0 (fun i x y Tz H2 Q2 hx hy s2 hT q9 => ?_) (fun H2 D hD s2 nD => ?_)
    · have hi : i < 4 := (List.getElem?_eq_some_iff.mp hx).1
      obtain rfl | rfl | rfl | rfl : i = 0 ∨ i = 1 ∨ i = 2 ∨ i = 3 := by omega
      · cases hx
        cases hy
        clean_wf
        refine ⟨rfl, ?_⟩
        clean_wf
        exact q9 _ (Same.refl _)
      · cases hx
        cases hy
        clean_wf
        refine ⟨rfl, ?_⟩
        clean_wf
        exact q9 _ (Same.refl _)
      · cases hx
        cases hy
        clean_wf
        refine ⟨rfl, ?_⟩
        clean_wf
        exact q9 _ (Same.refl _)
      · cases hx
        cases hy
        clean_wf
        refine ⟨rfl, ?_⟩
        clean_wf
        exact q9 _ (Same.refl _)
    · replace hD : H2 D = some (.lst ((mL (lin s9 t9 (p0, p1, p2, p3) (q0, q1, q2, q3))).map V.int)) := hD
      generalize mL (lin s9 t9 (p0, p1, p2, p3) (q0, q1, q2, q3)) = ms at *
      clean_wf
      exact kk _ _ (s2.trans sn) (SqT.of ht)
def CmQ (K : PySem.W.Frag) (H : Hp) (d : Int) (f g : Fm) (Q : VK) : Prop := ∀ H' t tF tr t1 t2 h p q, Same H H' → H' t = some (.tup [.ref tF, .ref tr]) → SqT K H' tF ((fL h).map V.int) → H' tr = some (.tup [.ref t1, .ref t2]) → SqT K H' t1 ((mL p).map V.int) → SqT K H' t2 ((mL q).map V.int) →
  Cmp f g h p q → ClM d (fL h) → BdM 130800 p → BdM 130800 q → Q (.ref t) H'
def SmF (f : Fm) : Prop := f.1.natAbs ≤ 274877906944 ∧ f.2.1.natAbs ≤ 274877906944 ∧ f.2.2.natAbs ≤ 274877906944
def spCompose (K : PySem.W.Frag) : Sp := fun vs H Q _ => ∃ (af ag : Addr) (d : Int) (f g : Fm), vs = [.ref af, .ref ag] ∧ SqT K H af ((fL f).map V.int) ∧ SqT K H ag ((fL g).map V.int) ∧ DvS d ∧ FdF d f ∧ FdF d g ∧ SmF f ∧ SmF g ∧ CmQ K H d f g Q
theorem uCompose {K : PySem.W.Frag} {H : Hp} {Q : VK} {E : XK} {vs : List V} {af ag : Addr} {d : Int} {f g : Fm} (e : vs = [.ref af, .ref ag]) (s1 : SqT K H af ((fL f).map V.int)) (s2 : SqT K H ag ((fL g).map V.int)) (v : DvS d) (F : FdF d f) (G : FdF d g) (b1 : SmF f) (b2 : SmF g) (kk : CmQ K H d f g Q) : spCompose K vs H Q E :=
  ⟨af, ag, d, f, g, e, s1, s2, v, F, G, b1, b2, kk⟩
theorem okCompose (T : Txt K mg fa fd) : FnOk P w K mg base CX0 11 (fa 42) (fd 42) ["form", "other"] (spCompose K) := by
  refine T.F_compose.ok scCompose (fun vs H Q E h => ?_) (fun cdv A outer s H vs Q E hr h => ?_)
  · obtain ⟨af, ag, d, ⟨a, b, c⟩, ⟨a2, b2, c2⟩, rfl, sf, sg, v, F, G, ⟨bf1, bf2, bf3⟩, ⟨bg1, bg2, bg3⟩, kk⟩ := h
    rfl
  · obtain ⟨af, ag, d, ⟨a, b, c⟩, ⟨a2, b2, c2⟩, rfl, sf, sg, v, F, G, ⟨bf1, bf2, bf3⟩, ⟨bg1, bg2, bg3⟩, kk⟩ := h
    refine ⟨_, (pss_cons (ps_asg (pe_call (sp := spCanonicalForm K) (okCanonicalForm T) hr (by rfl) T.G_canonical_form T.F_canonical_form.kp T.B_canonical_form .nil pass0 (pa_cons (pv 0) pa_nil)) (pgT K 2 (by rfl) (pgs_cons (pg_name (i := 2) scCompose.nd rfl (Or.inl rfl)) (pgs_cons (pg_name (i := 3) scCompose.nd rfl (Or.inl rfl)) pgs_nil))))
      (pss_cons (ps_asg (pe_call (sp := spCanonicalForm K) (okCanonicalForm T) hr (by rfl) T.G_canonical_form T.F_canonical_form.kp T.B_canonical_form .nil pass0 (pa_cons (pv 1) pa_nil)) (pgT K 2 (by rfl) (pgs_cons (pg_name (i := 4) scCompose.nd rfl (Or.inl rfl)) (pgs_cons (pg_name (i := 5) scCompose.nd rfl (Or.inl rfl)) pgs_nil))))
      (pss_cons (ps_set (i := 6) scCompose.nd rfl (Or.inl rfl) (pe_call (sp := spCompleted K) (okCompleted T) (hr.mono (by decide)) (by rfl) T.G_completed T.F_completed.kp T.B_completed .nil pass0 (pa_cons (pe_call (sp := spPointApart K) (okPointApart T) (hr.mono (by decide)) (by rfl) T.G_point_apart T.F_point_apart.kp T.B_point_apart .nil pass0 (pa_cons (pv 4) (pa_cons (pe_ix (ixT K) (pv 2) pe_int (fun _ _ => rfl)) pa_nil))) pa_nil)))
      (pss_cons (ps_asg (pe_call (sp := spUnitingSteps K) (okUnitingSteps T) (hr.mono (by decide)) (by rfl) T.G__uniting_steps T.F__uniting_steps.kp T.B__uniting_steps .nil pass0 (pa_cons (pv 2) (pa_cons (pe_call (sp := spAct K) (okAct T) (hr.mono (by decide)) (by rfl) T.G_act T.F_act.kp T.B_act .nil pass0 (pa_cons (pv 4) (pa_cons (pv 6) pa_nil))) pa_nil))) (pgT K 2 (by rfl) (pgs_cons (pg_name (i := 7) scCompose.nd rfl (Or.inl rfl)) (pgs_cons (pg_name (i := 8) scCompose.nd rfl (Or.inl rfl)) pgs_nil))))
      (pss_cons (ps_set (i := 3) scCompose.nd rfl (Or.inl rfl) (pe_call (sp := spMultiply K) (okMultiply T) (hr.mono (by decide)) (by rfl) T.G_multiply T.F_multiply.kp T.B_multiply .nil pass0 (pa_cons (pv 3) (pa_cons (pv 7) pa_nil))))
      (pss_cons (ps_set (i := 5) scCompose.nd rfl (Or.inl rfl) (pe_call (sp := spMultiply K) (okMultiply T) (hr.mono (by decide)) (by rfl) T.G_multiply T.F_multiply.kp T.B_multiply .nil pass0 (pa_cons (pe_call (sp := spMultiply K) (okMultiply T) (hr.mono (by decide)) (by rfl) T.G_multiply T.F_multiply.kp T.B_multiply .nil pass0 (pa_cons (pv 5) (pa_cons (pv 6) pa_nil))) (pa_cons (pv 8) pa_nil))))
      (pss_cons (ps_asg (pe_call (sp := spAct K) (okAct T) (hr.mono (by decide)) (by rfl) T.G_act T.F_act.kp T.B_act .nil pass0 (pa_cons (pv 0) (pa_cons (pv 3) pa_nil))) (pgT K 3 (by rfl) (pgs_cons (pg_name (i := 9) scCompose.nd rfl (Or.inl rfl)) (pgs_cons (pg_name (i := 10) scCompose.nd rfl (Or.inl rfl)) (pgs_cons (pg_name (i := 11) scCompose.nd rfl (Or.inl rfl)) pgs_nil)))))
      (pss_cons (ps_asg (pe_call (sp := spAct K) (okAct T) (hr.mono (by decide)) (by rfl) T.G_act T.F_act.kp T.B_act .nil pass0 (pa_cons (pv 1) (pa_cons (pv 5) pa_nil))) (pgT K 3 (by rfl) (pgs_cons (pg_name (i := 12) scCompose.nd rfl (Or.inl rfl)) (pgs_cons (pg_name (i := 11) scCompose.nd rfl (Or.inl rfl)) (pgs_cons (pg_name (i := 13) scCompose.nd rfl (Or.inl rfl)) pgs_nil)))))
      (pss_cons (ps_set (i := 13) scCompose.nd rfl (Or.inl rfl) (pe_op op_fdivX (pv 13) (pv 9)))
      (pss_cons (ps_asg (pe_call (sp := spCanonicalForm K) (okCanonicalForm T) hr (by rfl) T.G_canonical_form T.F_canonical_form.kp T.B_canonical_form .nil pass0 (pa_cons (pe_tup (pa_cons (pe_op op_mulW (pv 9) (pv 12)) (pa_cons (pv 10) (pa_cons (pv 13) pa_nil)))) pa_nil)) (pgT K 2 (by rfl) (pgs_cons (pg_name (i := 14) scCompose.nd rfl (Or.inl rfl)) (pgs_cons (pg_name (i := 15) scCompose.nd rfl (Or.inl rfl)) pgs_nil))))
      (pss_cons (ps_set (i := 16) scCompose.nd rfl (Or.inl rfl) (pe_call (sp := spRowBefore K) (okRowBefore T) (hr.mono (by decide)) (by rfl) T.G__row_before T.F__row_before.kp T.B__row_before .nil pass0 (pa_cons (pe_tup (pa_cons pe_int (pa_cons pe_int (pa_cons pe_int (pa_cons (pe_un un_neg (pv 13)) pa_nil))))) (pa_cons (pe_call (sp := spInverse K) (okInverse T) (hr.mono (by decide)) (by rfl) T.G_inverse T.F_inverse.kp T.B_inverse .nil pass0 (pa_cons (pv 3) pa_nil)) (pa_cons (pe_call (sp := spInverse K) (okInverse T) (hr.mono (by decide)) (by rfl) T.G_inverse T.F_inverse.kp T.B_inverse .nil pass0 (pa_cons (pv 5) pa_nil)) pa_nil)))))
      (pss_cons (ps_set (i := 17) scCompose.nd rfl (Or.inl rfl) (pe_call (sp := spRowBefore K) (okRowBefore T) (hr.mono (by decide)) (by rfl) T.G__row_before T.F__row_before.kp T.B__row_before .nil pass0 (pa_cons (pe_tup (pa_cons pe_int (pa_cons (pv 9) (pa_cons (pv 12) (pa_cons (pv 10) pa_nil))))) (pa_cons (pe_call (sp := spInverse K) (okInverse T) (hr.mono (by decide)) (by rfl) T.G_inverse T.F_inverse.kp T.B_inverse .nil pass0 (pa_cons (pv 3) pa_nil)) (pa_cons (pe_call (sp := spInverse K) (okInverse T) (hr.mono (by decide)) (by rfl) T.G_inverse T.F_inverse.kp T.B_inverse .nil pass0 (pa_cons (pv 5) pa_nil)) pa_nil)))))
      (pss_cons (ps_asg (pe_call (sp := spInverse K) (okInverse T) (hr.mono (by decide)) (by rfl) T.G_inverse T.F_inverse.kp T.B_inverse .nil pass0 (pa_cons (pv 15) pa_nil)) (pgT K 4 (by rfl) (pgs_cons (pg_name (i := 18) scCompose.nd rfl (Or.inl rfl)) (pgs_cons (pg_name (i := 19) scCompose.nd rfl (Or.inl rfl)) (pgs_cons (pg_name (i := 20) scCompose.nd rfl (Or.inl rfl)) (pgs_cons (pg_name (i := 21) scCompose.nd rfl (Or.inl rfl)) pgs_nil))))))
      (pss_one (ps_ret (pe_tup (pa_cons (pv 14) (pa_cons (pe_tup (pa_cons (pe_call (sp := spSumOfRows K) (okSumOfRows T) (hr.mono (by decide)) (by rfl) T.G__sum_of_rows T.F__sum_of_rows.kp T.B__sum_of_rows .nil pass0 (pa_cons (pv 18) (pa_cons (pv 16) (pa_cons (pv 19) (pa_cons (pv 17) pa_nil))))) (pa_cons (pe_call (sp := spSumOfRows K) (okSumOfRows T) (hr.mono (by decide)) (by rfl) T.G__sum_of_rows T.F__sum_of_rows.kp T.B__sum_of_rows .nil pass0 (pa_cons (pv 20) (pa_cons (pv 16) (pa_cons (pv 21) (pa_cons (pv 17) pa_nil))))) pa_nil))) pa_nil)))))))))))))))))), ?_⟩
    have sf : SqT K H af [.int a, .int b, .int c] := sf
    have sg : SqT K H ag [.int a2, .int b2, .int c2] := sg
    dsimp only at bf1 bf2 bf3 bg1 bg2 bg3
    clean_wf
    refine uCanonicalForm rfl sf (F.ins v) bf1 bf2 bf3 ?_
    intro H1 t1 tf1 tm1 x y z p q r s s1 ht1 sx1 sm1 C1
    have sg := same_seqT s1 sg
    clean_wf
    refine uCanonicalForm rfl sg (G.ins v) bg1 bg2 bg3 ?_
    intro H2 t2 tf2 tm2 x2 y2 z2 p2 q2 r2 s2 s2' ht2 sx2 sm2 C2
    have sx1 := same_seqT s2' sx1
    have sm1 := same_seqT s2' sm1
    have cl1 : ClM d [x, y, z] := cn_in v F C1.cn
    have cl2 : ClM d [x2, y2, z2] := cn_in v G C2.cn
    obtain ⟨w1, w2, w3⟩ := cl_small v cl1
    obtain ⟨w4, w5, w6⟩ := cl_small v cl2
    obtain ⟨F1, _⟩ := cl_fd (f := (x, y, z)) v cl1
    obtain ⟨F2, _⟩ := cl_fd (f := (x2, y2, z2)) v cl2
    have x0 : x ≠ 0 := F1.a0 v
    have bx : Bd 50 x := Bd.of (m := 401) (by omega) (by decide)
    have bx' : Bd 60 x := bx.mono (by decide)
    have by' : Bd 50 y := Bd.of (m := 401) (by omega) (by decide)
    have bz' : Bd 50 z := Bd.of (m := 401) (by omega) (by decide)
    have b2x : Bd 60 x2 := Bd.of (m := 401) (by omega) (by decide)
    have b2y : Bd 60 y2 := Bd.of (m := 401) (by omega) (by decide)
    have b2z : Bd 60 z2 := Bd.of (m := 401) (by omega) (by decide)
    obtain ⟨lp, S⟩ := sm_ok (n := x.natAbs) (by omega) w1
    obtain ⟨u1, u2, u3, u4⟩ := pt_all (a := x2) (b := y2) (c := z2) S x0 w1 F2.ct
    clean_wf
    refine ⟨tf2, x2, y2, z2, x, lp, rfl, sx2, x0, by omega, S.pp, S.sz, b2x, b2z, ?_⟩
    intro H3 tp s3 htp
    have sm1 := same_seqT s3 sm1
    have sx1 := same_seqT s3 sx1
    have sx2 := same_seqT s3 sx2
    have sm2 := same_seqT s3 sm2
    generalize (ptF x2 z2 (lp.map (·.1))).1 = X at *
    generalize (ptF x2 z2 (lp.map (·.1))).2 = Y at *
    have bX : Bd 60 X := Bd.of (m := 401) (by omega) (by decide)
    have bY : Bd 60 Y := Bd.of (m := 401) (by omega) (by decide)
    clean_wf
    intro U V eU bU bV
    clean_wf
    rename_i HT tT sT hT
    have s34 := sT.trans sn
    have sm1 := same_seqT s34 sm1
    have sx1 := same_seqT s34 sx1
    have sx2 := same_seqT s34 sx2
    have sm2 := same_seqT s34 sm2
    have sT := same_seqT sn (SqT.of (K := K) hT)
    have sW := SqT.of (K := K) ht
    have sf := same_seqT ((s1.trans s2').trans (s3.trans s34)) sf
    have sg := same_seqT (s2'.trans (s3.trans s34)) sg
    have s4 := ((s1.trans s2').trans s3).trans s34
    clear ht sn htp s3 s2' s1 ht2 ht1 hT s34
    generalize tn = tW at *
    generalize HN = H4 at *
    have z2a : Bd 10 x2 := Bd.of (m := 401) (by omega) (by decide)
    have z2b : Bd 10 y2 := Bd.of (m := 401) (by omega) (by decide)
    have z2c : Bd 10 z2 := Bd.of (m := 401) (by omega) (by decide)
    have zX : Bd 10 X := Bd.of (m := 401) (by omega) (by decide)
    have zY : Bd 10 Y := Bd.of (m := 401) (by omega) (by decide)
    have zt : Bd 10 2 := by unfold Bd; decide
    have bB : Bd 9600 (2 * x2 * X * -V + y2 * (X * U + -V * Y) + 2 * z2 * Y * U) := Bd.mono (((((zt.mul z2a).mul zX).mul bV.neg).add (z2b.mul ((zX.mul bU).add (bV.neg.mul zY)))).add (((zt.mul z2c).mul zY).mul bU)) (show _ ≤ 9600 by decide)
    have aA := (act_size (a := x2) (b := y2) (c := z2) (p := X) (q := X) (r := Y) (s := Y) (C := 401) (M := 20) (by omega) (by omega) w6 u3 u3 u4 u4).1
    have eW : actF (x2, y2, z2) X (-V) Y U = (x2 * X * X + y2 * X * Y + z2 * Y * Y, 2 * x2 * X * -V + y2 * (X * U + -V * Y) + 2 * z2 * Y * U, x2 * -V * -V + y2 * -V * U + z2 * U * U) := rfl
    have dT : X * U - -V * Y = 1 := by rw [← eU]; grind
    have F3 : FdF d (actF (x2, y2, z2) X (-V) Y U) := F2.act dT
    rw [eW] at F3
    change (x2 * X * X + y2 * X * Y + z2 * Y * Y).natAbs ≤ _ at aA
    change gI x (x2 * X * X + y2 * X * Y + z2 * Y * Y) = 1 at u2
    generalize x2 * X * X + y2 * X * Y + z2 * Y * Y = A2 at *
    generalize 2 * x2 * X * -V + y2 * (X * U + -V * Y) + 2 * z2 * Y * U = B2 at *
    generalize x2 * -V * -V + y2 * -V * U + z2 * U * U = C3 at *
    have A20 : A2 ≠ 0 := F3.a0 v
    have bA : Bd 50 A2 := Bd.of (m := 481200) aA (by decide)
    have pr1 : y % 2 = d % 2 := par_mid F1
    have pr2 : B2 % 2 = d % 2 := par_mid F3
    clear z2a z2b z2c zX zY zt b2x b2y b2z bX bY
    refine uUnitingSteps rfl sx1 sW u2 A20 (by omega) bx by' bA bB ?_
    intro H5 tu ts1 ts2 n k s5 htu ss1 ss2 un n0 n1
    have bn : Bd 50 n := Bd.of (m := 481200) (by omega) (by decide)
    have bk : Bd 9700 k := by
      have e2 : 2 * A2 * k = y + 2 * x * n - B2 := by omega
      have z2 : Bd 10 2 := by unfold Bd; decide
      have w : Bd 9700 (2 * A2 * k) := by
        rw [e2]
        exact ((by'.add ((z2.mul bx).mul bn)).sub bB).mono (by decide)
      have h : k.natAbs ≤ (2 * A2 * k).natAbs := by
        rw [Int.natAbs_mul]
        exact Nat.le_mul_of_pos_left _ (by omega)
      exact Nat.lt_of_le_of_lt h w
    obtain ⟨bm1, bm2, bm3, bm4⟩ := C1.bd
    obtain ⟨bn1, bn2, bn3, bn4⟩ := C2.bd
    dsimp only at bm1 bm2 bm3 bm4 bn1 bn2 bn3 bn4
    have sm1 := same_seqT s5 sm1
    have sm2 := same_seqT s5 sm2
    have sT := same_seqT s5 sT
    have sf := same_seqT s5 sf
    have sg := same_seqT s5 sg
    repeat' (first
      | with_reducible apply R.var
      | with_reducible apply R.gsE
      | ((with_reducible apply R.gsN); (focus exact rfl))
      | with_reducible apply R.lenS
      | ((with_reducible apply R.lenB); exact rfl)
      | ((with_reducible apply R.isEq); exact rfl)
      | with_reducible apply R.op
      | with_reducible apply R.i2
      | with_reducible apply R.i0
      | with_reducible apply R.con
      | with_reducible apply R.cons
      | with_reducible apply R.nil
      | ((with_reducible apply R.gBd); first | with_reducible assumption | with_reducible apply Bd.mul | with_reducible apply Bd.add | with_reducible apply Bd.sub | ((with_reducible apply Bd.l8); exact eq_true (by decide)) | ((with_reducible apply Bd.lit); exact eq_true (by decide)) | with_reducible apply Bd.neg | with_reducible apply Bd.div | with_reducible apply Bd.abs | with_reducible apply Bd.mod | with_reducible apply Bd.fdiv | ((with_reducible apply Bd.om); omega))
      | with_reducible apply Bd.mulW
      | ((with_reducible apply R.gSqT); first | with_reducible assumption | ((with_reducible apply SqT.of); with_reducible assumption) | ((with_reducible apply same_seqT); with_reducible assumption) | ((with_reducible apply kp_seqT); with_reducible assumption) | with_reducible apply hU)
      | ((with_reducible apply R.isLe); first | decide | omega)
      | with_reducible apply R.gcons
      | with_reducible apply R.gname
      | ((with_reducible apply R.ixT); (focus ((repeat' (first | with_reducible assumption | with_reducible apply hU | ((with_reducible apply SqT.of); with_reducible assumption) | ((with_reducible apply same_seqT); with_reducible assumption) | ((with_reducible apply kp_seqT); with_reducible assumption) | ((with_reducible apply Dw.same); with_reducible assumption))); done)); exact rfl)
      | ((with_reducible apply R.ixL); (focus ((repeat' (first | with_reducible assumption | ((with_reducible apply SqL.of); with_reducible assumption) | ((with_reducible apply Same.seq); with_reducible assumption) | ((with_reducible apply Kp.seqL); with_reducible assumption) | ((with_reducible apply fresh_ne); with_reducible assumption) | ((with_reducible apply Dw.same); with_reducible assumption))); done)); exact rfl)
      | with_reducible apply R.test
      | with_reducible apply R.tb'
      | with_reducible apply R.isbl
      | with_reducible apply R.cmp
      | with_reducible apply R.t2i
      | with_reducible apply R.intp
      | with_reducible apply R.ifs
      | with_reducible apply R.asg
      | with_reducible apply R.seq
      | with_reducible apply R.gtup
      | with_reducible apply R.u1
      | with_reducible apply R.un
      | with_reducible apply R.ret
      | with_reducible apply R.next
      | with_reducible apply R.call
      | with_reducible apply iteT
      | with_reducible apply iteF
      | with_reducible assumption
      | with_reducible apply R.tup
      | with_reducible apply R.lst
      | with_reducible apply R.callB
      | with_reducible apply R.gnil
      | with_reducible apply R.brk
      | with_reducible apply R.cont
      | with_reducible apply R.drop
      | with_reducible apply R.par
      | with_reducible apply R.par2
      | with_reducible apply R.par3
      | with_reducible apply R.par4
      | with_reducible apply R.tif
      | with_reducible apply R.and
      | with_reducible apply R.or
      | with_reducible apply R.not
      | with_reducible apply R.andV
      | with_reducible apply R.orV
      | with_reducible apply R.notV
      | with_reducible apply R.chain
      | with_reducible apply R.tupL
      | with_reducible apply R.lstL
      | with_reducible apply R.cat
      | with_reducible apply R.absI
      | with_reducible apply R.intI
      | with_reducible apply R.intB
      | with_reducible apply R.eqS
      | with_reducible apply R.eqBl
      | with_reducible apply R.neBl
      | with_reducible apply R.sl
      | with_reducible apply R.noPart
      | with_reducible apply R.part
      | with_reducible apply R.isInt
      | with_reducible apply R.slL
      | with_reducible apply R.isiT
      | with_reducible apply R.isiLst
      | with_reducible apply R.nwT
      | with_reducible apply R.nwL
      | ((with_reducible apply R.mt); intro HN tn sn nn ht)
      | ((with_reducible apply R.ml); intro HN tn sn nn ht)
      | ((with_reducible apply R.isiTupS); focus ((repeat' (first | with_reducible assumption | with_reducible apply hU | ((with_reducible apply SqT.of); with_reducible assumption) | ((with_reducible apply same_seqT); with_reducible assumption) | ((with_reducible apply kp_seqT); with_reducible assumption) | ((with_reducible apply Dw.same); with_reducible assumption))); done))
      | ((with_reducible apply R.ne4); focus ((repeat' (first | with_reducible assumption | with_reducible apply hU | ((with_reducible apply SqT.of); with_reducible assumption) | ((with_reducible apply same_seqT); with_reducible assumption) | ((with_reducible apply kp_seqT); with_reducible assumption) | ((with_reducible apply Dw.same); with_reducible assumption))); done))
      | ((with_reducible apply R.ne3); focus ((repeat' (first | with_reducible assumption | with_reducible apply hU | ((with_reducible apply SqT.of); with_reducible assumption) | ((with_reducible apply same_seqT); with_reducible assumption) | ((with_reducible apply kp_seqT); with_reducible assumption) | ((with_reducible apply Dw.same); with_reducible assumption))); done))
      | ((with_reducible apply R.ne2); focus ((repeat' (first | with_reducible assumption | with_reducible apply hU | ((with_reducible apply SqT.of); with_reducible assumption) | ((with_reducible apply same_seqT); with_reducible assumption) | ((with_reducible apply kp_seqT); with_reducible assumption) | ((with_reducible apply Dw.same); with_reducible assumption))); done))
      | ((with_reducible apply R.eq4); focus ((repeat' (first | with_reducible assumption | with_reducible apply hU | ((with_reducible apply SqT.of); with_reducible assumption) | ((with_reducible apply same_seqT); with_reducible assumption) | ((with_reducible apply kp_seqT); with_reducible assumption) | ((with_reducible apply Dw.same); with_reducible assumption))); done))
      | ((with_reducible apply R.eq3); focus ((repeat' (first | with_reducible assumption | with_reducible apply hU | ((with_reducible apply SqT.of); with_reducible assumption) | ((with_reducible apply same_seqT); with_reducible assumption) | ((with_reducible apply kp_seqT); with_reducible assumption) | ((with_reducible apply Dw.same); with_reducible assumption))); done))
      | ((with_reducible apply R.eq2); focus ((repeat' (first | with_reducible assumption | with_reducible apply hU | ((with_reducible apply SqT.of); with_reducible assumption) | ((with_reducible apply same_seqT); with_reducible assumption) | ((with_reducible apply kp_seqT); with_reducible assumption) | ((with_reducible apply Dw.same); with_reducible assumption))); done))
      | ((with_reducible apply R.nw); intro HN tn sn ht)
      | with_reducible apply R.notT
      | with_reducible apply R.notF
      | ((with_reducible apply SqL.of); with_reducible assumption)
      | ((with_reducible apply sameB); with_reducible assumption)
      | ((with_reducible apply same_at); with_reducible assumption)
      | ((with_reducible apply Same.seq); with_reducible assumption)
      | ((with_reducible apply Kp.seqL); with_reducible assumption)
      | ((with_reducible apply fresh_ne); with_reducible assumption)
      | ((with_reducible apply Dw.same); with_reducible assumption)
      | ((with_reducible apply R.isEq); exact eq_true (by first | decide | omega))
      | ((with_reducible apply R.isLt); first | decide | omega)
      | ((with_reducible apply R.isLtI); first | decide | omega)
      | ((with_reducible apply R.isLeI); first | decide | omega)
      | ((with_reducible apply R.cdiv); exact rfl)
      | ((with_reducible apply R.cpow); exact rfl)
      | with_reducible apply R.cdivX
      | ((with_reducible apply R.isNe); omega)
      | ((with_reducible apply wayNF); first | exact rfl | exact ⟨rfl, rfl⟩ | exact ⟨rfl, rfl, rfl⟩ | exact ⟨rfl, rfl, rfl, rfl⟩)
      | with_reducible apply R.bm
      | ((with_reducible apply R.bmT); (focus ((first | with_reducible assumption | ((with_reducible apply same_at); with_reducible assumption) | ((with_reducible apply kp_at); with_reducible assumption)); done)))
      | with_reducible apply R.dput
      | with_reducible apply R.dget
      | with_reducible apply R.din
      | with_reducible apply R.dget2
      | with_reducible apply R.forE
      | with_reducible apply R.rng1
      | with_reducible apply R.rng2
      | with_reducible apply R.rg1
      | with_reducible apply R.rg2
      | with_reducible apply R.lcE
      | with_reducible apply R.itup
      | with_reducible apply R.ilst
      | with_reducible apply uLawNext
      | with_reducible apply uLawChange
      | with_reducible apply uMultiply
      | with_reducible apply uDeterminant
      | with_reducible apply uNegative
      | with_reducible apply uLawMul
      | with_reducible apply uLawWorth
      | with_reducible apply uWorth
      | with_reducible apply uScaled
      | with_reducible apply uDiscriminant
      | with_reducible apply uInverse
      | with_reducible apply uLawAct
      | with_reducible apply uScaled
      | with_reducible apply uLawSquare
      | with_reducible apply uLawRoot
      | with_reducible apply uFloorRoot
      | with_reducible apply uIsReducedDefinite
      | with_reducible apply uStepDown
      | with_reducible apply uScaled
      | with_reducible apply uIsReducedIndefinite
      | with_reducible apply uStepOf
      | with_reducible apply uStepNear
      | with_reducible apply uDirected
      | with_reducible apply uCompleted
      | with_reducible apply uBezout
      | with_reducible apply uFloorRoot
      | with_reducible apply uDiscriminant
      | with_reducible apply uContent
      | with_reducible apply uFlatParts
      | with_reducible apply uCycle
      | with_reducible apply uKind
      | with_reducible apply uIsSquare
      | fail
      )
    rename_i HM tM sM hM HN1 tN1 sN1 hN1
    have sMt := same_seqT (sN1.trans sn) (SqT.of (K := K) hM)
    have sNt := SqT.of (K := K) ht
    have s6 := (sM.trans sN1).trans sn
    have sf := same_seqT s6 sf
    have sg := same_seqT s6 sg
    have s7 := (s4.trans s5).trans s6
    clear hM hN1 ht htu sM sN1 sn sm1 sm2 sT ss1 ss2 sx1 sx2 sW s6 s4 s5
    generalize tn = tN at *
    generalize HN = H6 at *
    have d1 : p * s - q * r = 1 := C1.det
    have d2 : p2 * s2 - q2 * r2 = 1 := C2.det
    have a1 : (x, y, z) = actF (a, b, c) p q r s := C1.act
    have a2' : (x2, y2, z2) = actF (a2, b2, c2) p2 q2 r2 s2 := C2.act
    have e1 : actF (a, b, c) (p * 1 + q * 0) (p * n + q * 1) (r * 1 + s * 0) (r * n + s * 1) = (x, y + 2 * x * n, x * n * n + y * n + z) := by
      rw [← actF_mul, ← a1, up_act]
    have e2 : actF (a2, b2, c2) ((p2 * X + q2 * Y) * 1 + (p2 * -V + q2 * U) * 0) ((p2 * X + q2 * Y) * k + (p2 * -V + q2 * U) * 1) ((r2 * X + s2 * Y) * 1 + (r2 * -V + s2 * U) * 0) ((r2 * X + s2 * Y) * k + (r2 * -V + s2 * U) * 1) = (A2, B2 + 2 * A2 * k, A2 * k * k + B2 * k + C3) := by
      rw [← actF_mul, ← actF_mul, ← a2', eW, up_act]
    have m1 := det_mul d1 (show (1 : Int) * 1 - n * 0 = 1 by omega)
    have m2 := det_mul (det_mul d2 dT) (show (1 : Int) * 1 - k * 0 = 1 by omega)
    have y0 : Bd 1 0 := by unfold Bd; decide
    have y1 : Bd 1 1 := by unfold Bd; decide
    have f1 : Bd 36960 (p * 1 + q * 0) := ((bm1.mul y1).add (bm2.mul y0)).mono (by decide)
    have f2 : Bd 36960 (p * n + q * 1) := ((bm1.mul bn).add (bm2.mul y1)).mono (by decide)
    have f3 : Bd 36960 (r * 1 + s * 0) := ((bm3.mul y1).add (bm4.mul y0)).mono (by decide)
    have f4 : Bd 36960 (r * n + s * 1) := ((bm3.mul bn).add (bm4.mul y1)).mono (by decide)
    have hX : Bd 60 X := Bd.of (m := 401) (by omega) (by decide)
    have hY : Bd 60 Y := Bd.of (m := 401) (by omega) (by decide)
    have g1 : Bd 46400 (p2 * X + q2 * Y) := ((bn1.mul hX).add (bn2.mul hY)).mono (by decide)
    have g2 : Bd 46400 (p2 * -V + q2 * U) := ((bn1.mul bV.neg).add (bn2.mul bU)).mono (by decide)
    have g3 : Bd 46400 (r2 * X + s2 * Y) := ((bn3.mul hX).add (bn4.mul hY)).mono (by decide)
    have g4 : Bd 46400 (r2 * -V + s2 * U) := ((bn3.mul bV.neg).add (bn4.mul bU)).mono (by decide)
    have h1 : Bd 56200 ((p2 * X + q2 * Y) * 1 + (p2 * -V + q2 * U) * 0) := ((g1.mul y1).add (g2.mul y0)).mono (by decide)
    have h2 : Bd 56200 ((p2 * X + q2 * Y) * k + (p2 * -V + q2 * U) * 1) := ((g1.mul bk).add (g2.mul y1)).mono (by decide)
    have h3 : Bd 56200 ((r2 * X + s2 * Y) * 1 + (r2 * -V + s2 * U) * 0) := ((g3.mul y1).add (g4.mul y0)).mono (by decide)
    have h4 : Bd 56200 ((r2 * X + s2 * Y) * k + (r2 * -V + s2 * U) * 1) := ((g3.mul bk).add (g4.mul y1)).mono (by decide)
    clear g1 g2 g3 g4 hX hY bm1 bm2 bm3 bm4 bn1 bn2 bn3 bn4 a1 a2' C1 C2 d1 d2
    generalize (p2 * X + q2 * Y) * 1 + (p2 * -V + q2 * U) * 0 = N1 at *
    generalize (p2 * X + q2 * Y) * k + (p2 * -V + q2 * U) * 1 = N2 at *
    generalize (r2 * X + s2 * Y) * 1 + (r2 * -V + s2 * U) * 0 = N3 at *
    generalize (r2 * X + s2 * Y) * k + (r2 * -V + s2 * U) * 1 = N4 at *
    generalize p * 1 + q * 0 = M1 at *
    generalize p * n + q * 1 = M2 at *
    generalize r * 1 + s * 0 = M3 at *
    generalize r * n + s * 1 = M4 at *
    have af1 : Bd 50 a := Bd.of bf1 (by decide)
    have af2 : Bd 50 b := Bd.of bf2 (by decide)
    have af3 : Bd 50 c := Bd.of bf3 (by decide)
    have ag1 : Bd 50 a2 := Bd.of bg1 (by decide)
    have ag2 : Bd 50 b2 := Bd.of bg2 (by decide)
    have ag3 : Bd 50 c2 := Bd.of bg3 (by decide)
    have G1 : FdF d (x, y + 2 * x * n, x * n * n + y * n + z) := by
      rw [← e1]
      exact F.act m1
    have G2 : FdF d (A2, B2 + 2 * A2 * k, A2 * k * k + B2 * k + C3) := by
      rw [← e2]
      exact G.act m2
    have i1 : a * M1 * M1 + b * M1 * M3 + c * M3 * M3 = x := congrArg (fun f : Fm => f.1) e1
    have i2 : 2 * a * M1 * M2 + b * (M1 * M4 + M2 * M3) + 2 * c * M3 * M4 = y + 2 * x * n := congrArg (fun f : Fm => f.2.1) e1
    have i3 : a2 * N1 * N1 + b2 * N1 * N3 + c2 * N3 * N3 = A2 := congrArg (fun f : Fm => f.1) e2
    have i4 : a2 * N2 * N2 + b2 * N2 * N4 + c2 * N4 * N4 = A2 * k * k + B2 * k + C3 := congrArg (fun f : Fm => f.2.2) e2
    refine ⟨af, tM, a, b, c, M1, M2, M3, M4, 58000, rfl, sf, sMt, af1.mono (by decide), af2.mono (by decide), af3.mono (by decide), f1.mono (by decide), f2.mono (by decide), f3.mono (by decide), f4.mono (by decide), by decide, ?_⟩
    rw [i1, i2]
    have bMid := mid_bd (x := x) w2 n0 n1
    have bxA : (x * A2).natAbs ≤ 20 * 481200 := by
      rw [Int.natAbs_mul]
      exact Nat.mul_le_mul w1 aA
    rw [← un] at G2 e2
    generalize A2 * k * k + B2 * k + C3 = Lq at *
    generalize x * n * n + y * n + z = c1 at *
    generalize y + 2 * x * n = Mid at *
    obtain ⟨q1, q2'⟩ := united G1.ds G2.ds u2 x0
    have e1' := e1
    have e2' := e2
    clear un e2 e1 eW i1 i2 bB bA bk bn by' bz' F3 F2 F1 cl1 cl2 S
    repeat' (first
      | with_reducible apply R.var
      | with_reducible apply R.gsE
      | ((with_reducible apply R.gsN); (focus exact rfl))
      | with_reducible apply R.lenS
      | ((with_reducible apply R.lenB); exact rfl)
      | ((with_reducible apply R.isEq); exact rfl)
      | with_reducible apply R.op
      | with_reducible apply R.i2
      | with_reducible apply R.i0
      | with_reducible apply R.con
      | with_reducible apply R.cons
      | with_reducible apply R.nil
      | ((with_reducible apply R.gBd); first | with_reducible assumption | with_reducible apply Bd.mul | with_reducible apply Bd.add | with_reducible apply Bd.sub | ((with_reducible apply Bd.l8); exact eq_true (by decide)) | ((with_reducible apply Bd.lit); exact eq_true (by decide)) | with_reducible apply Bd.neg | with_reducible apply Bd.div | with_reducible apply Bd.abs | with_reducible apply Bd.mod | with_reducible apply Bd.fdiv | ((with_reducible apply Bd.om); omega))
      | with_reducible apply Bd.mulW
      | ((with_reducible apply R.gSqT); first | with_reducible assumption | ((with_reducible apply SqT.of); with_reducible assumption) | ((with_reducible apply same_seqT); with_reducible assumption) | ((with_reducible apply kp_seqT); with_reducible assumption) | with_reducible apply hU)
      | ((with_reducible apply R.isLe); first | decide | omega)
      | with_reducible apply R.gcons
      | with_reducible apply R.gname
      | ((with_reducible apply R.ixT); (focus ((repeat' (first | with_reducible assumption | with_reducible apply hU | ((with_reducible apply SqT.of); with_reducible assumption) | ((with_reducible apply same_seqT); with_reducible assumption) | ((with_reducible apply kp_seqT); with_reducible assumption) | ((with_reducible apply Dw.same); with_reducible assumption))); done)); exact rfl)
      | ((with_reducible apply R.ixL); (focus ((repeat' (first | with_reducible assumption | ((with_reducible apply SqL.of); with_reducible assumption) | ((with_reducible apply Same.seq); with_reducible assumption) | ((with_reducible apply Kp.seqL); with_reducible assumption) | ((with_reducible apply fresh_ne); with_reducible assumption) | ((with_reducible apply Dw.same); with_reducible assumption))); done)); exact rfl)
      | with_reducible apply R.test
      | with_reducible apply R.tb'
      | with_reducible apply R.isbl
      | with_reducible apply R.cmp
      | with_reducible apply R.t2i
      | with_reducible apply R.intp
      | with_reducible apply R.ifs
      | with_reducible apply R.asg
      | with_reducible apply R.seq
      | with_reducible apply R.gtup
      | with_reducible apply R.u1
      | with_reducible apply R.un
      | with_reducible apply R.ret
      | with_reducible apply R.next
      | with_reducible apply R.call
      | with_reducible apply iteT
      | with_reducible apply iteF
      | with_reducible assumption
      | with_reducible apply R.tup
      | with_reducible apply R.lst
      | with_reducible apply R.callB
      | with_reducible apply R.gnil
      | with_reducible apply R.brk
      | with_reducible apply R.cont
      | with_reducible apply R.drop
      | with_reducible apply R.par
      | with_reducible apply R.par2
      | with_reducible apply R.par3
      | with_reducible apply R.par4
      | with_reducible apply R.tif
      | with_reducible apply R.and
      | with_reducible apply R.or
      | with_reducible apply R.not
      | with_reducible apply R.andV
      | with_reducible apply R.orV
      | with_reducible apply R.notV
      | with_reducible apply R.chain
      | with_reducible apply R.tupL
      | with_reducible apply R.lstL
      | with_reducible apply R.cat
      | with_reducible apply R.absI
      | with_reducible apply R.intI
      | with_reducible apply R.intB
      | with_reducible apply R.eqS
      | with_reducible apply R.eqBl
      | with_reducible apply R.neBl
      | with_reducible apply R.sl
      | with_reducible apply R.noPart
      | with_reducible apply R.part
      | with_reducible apply R.isInt
      | with_reducible apply R.slL
      | with_reducible apply R.isiT
      | with_reducible apply R.isiLst
      | with_reducible apply R.nwT
      | with_reducible apply R.nwL
      | ((with_reducible apply R.mt); intro HN tn sn nn ht)
      | ((with_reducible apply R.ml); intro HN tn sn nn ht)
      | ((with_reducible apply R.isiTupS); focus ((repeat' (first | with_reducible assumption | with_reducible apply hU | ((with_reducible apply SqT.of); with_reducible assumption) | ((with_reducible apply same_seqT); with_reducible assumption) | ((with_reducible apply kp_seqT); with_reducible assumption) | ((with_reducible apply Dw.same); with_reducible assumption))); done))
      | ((with_reducible apply R.ne4); focus ((repeat' (first | with_reducible assumption | with_reducible apply hU | ((with_reducible apply SqT.of); with_reducible assumption) | ((with_reducible apply same_seqT); with_reducible assumption) | ((with_reducible apply kp_seqT); with_reducible assumption) | ((with_reducible apply Dw.same); with_reducible assumption))); done))
      | ((with_reducible apply R.ne3); focus ((repeat' (first | with_reducible assumption | with_reducible apply hU | ((with_reducible apply SqT.of); with_reducible assumption) | ((with_reducible apply same_seqT); with_reducible assumption) | ((with_reducible apply kp_seqT); with_reducible assumption) | ((with_reducible apply Dw.same); with_reducible assumption))); done))
      | ((with_reducible apply R.ne2); focus ((repeat' (first | with_reducible assumption | with_reducible apply hU | ((with_reducible apply SqT.of); with_reducible assumption) | ((with_reducible apply same_seqT); with_reducible assumption) | ((with_reducible apply kp_seqT); with_reducible assumption) | ((with_reducible apply Dw.same); with_reducible assumption))); done))
      | ((with_reducible apply R.eq4); focus ((repeat' (first | with_reducible assumption | with_reducible apply hU | ((with_reducible apply SqT.of); with_reducible assumption) | ((with_reducible apply same_seqT); with_reducible assumption) | ((with_reducible apply kp_seqT); with_reducible assumption) | ((with_reducible apply Dw.same); with_reducible assumption))); done))
      | ((with_reducible apply R.eq3); focus ((repeat' (first | with_reducible assumption | with_reducible apply hU | ((with_reducible apply SqT.of); with_reducible assumption) | ((with_reducible apply same_seqT); with_reducible assumption) | ((with_reducible apply kp_seqT); with_reducible assumption) | ((with_reducible apply Dw.same); with_reducible assumption))); done))
      | ((with_reducible apply R.eq2); focus ((repeat' (first | with_reducible assumption | with_reducible apply hU | ((with_reducible apply SqT.of); with_reducible assumption) | ((with_reducible apply same_seqT); with_reducible assumption) | ((with_reducible apply kp_seqT); with_reducible assumption) | ((with_reducible apply Dw.same); with_reducible assumption))); done))
      | ((with_reducible apply R.nw); intro HN tn sn ht)
      | with_reducible apply R.notT
      | with_reducible apply R.notF
      | ((with_reducible apply SqL.of); with_reducible assumption)
      | ((with_reducible apply sameB); with_reducible assumption)
      | ((with_reducible apply same_at); with_reducible assumption)
      | ((with_reducible apply Same.seq); with_reducible assumption)
      | ((with_reducible apply Kp.seqL); with_reducible assumption)
      | ((with_reducible apply fresh_ne); with_reducible assumption)
      | ((with_reducible apply Dw.same); with_reducible assumption)
      | ((with_reducible apply R.isEq); exact eq_true (by first | decide | omega))
      | ((with_reducible apply R.isLt); first | decide | omega)
      | ((with_reducible apply R.isLtI); first | decide | omega)
      | ((with_reducible apply R.isLeI); first | decide | omega)
      | ((with_reducible apply R.cdiv); exact rfl)
      | ((with_reducible apply R.cpow); exact rfl)
      | with_reducible apply R.cdivX
      | ((with_reducible apply R.isNe); omega)
      | ((with_reducible apply wayNF); first | exact rfl | exact ⟨rfl, rfl⟩ | exact ⟨rfl, rfl, rfl⟩ | exact ⟨rfl, rfl, rfl, rfl⟩)
      | with_reducible apply R.bm
      | ((with_reducible apply R.bmT); (focus ((first | with_reducible assumption | ((with_reducible apply same_at); with_reducible assumption) | ((with_reducible apply kp_at); with_reducible assumption)); done)))
      | with_reducible apply R.dput
      | with_reducible apply R.dget
      | with_reducible apply R.din
      | with_reducible apply R.dget2
      | with_reducible apply R.forE
      | with_reducible apply R.rng1
      | with_reducible apply R.rng2
      | with_reducible apply R.rg1
      | with_reducible apply R.rg2
      | with_reducible apply R.lcE
      | with_reducible apply R.itup
      | with_reducible apply R.ilst
      | with_reducible apply uLawNext
      | with_reducible apply uLawChange
      | with_reducible apply uMultiply
      | with_reducible apply uDeterminant
      | with_reducible apply uNegative
      | with_reducible apply uLawMul
      | with_reducible apply uLawWorth
      | with_reducible apply uWorth
      | with_reducible apply uScaled
      | with_reducible apply uDiscriminant
      | with_reducible apply uInverse
      | with_reducible apply uLawAct
      | with_reducible apply uScaled
      | with_reducible apply uLawSquare
      | with_reducible apply uLawRoot
      | with_reducible apply uFloorRoot
      | with_reducible apply uIsReducedDefinite
      | with_reducible apply uStepDown
      | with_reducible apply uScaled
      | with_reducible apply uIsReducedIndefinite
      | with_reducible apply uStepOf
      | with_reducible apply uStepNear
      | with_reducible apply uDirected
      | with_reducible apply uCompleted
      | with_reducible apply uBezout
      | with_reducible apply uFloorRoot
      | with_reducible apply uDiscriminant
      | with_reducible apply uContent
      | with_reducible apply uFlatParts
      | with_reducible apply uCycle
      | with_reducible apply uKind
      | with_reducible apply uIsSquare
      | fail
      )
    refine ⟨ag, tN, a2, b2, c2, N1, N2, N3, N4, 58000, rfl, by simp_wf, by simp_wf, ag1.mono (by decide), ag2.mono (by decide), ag3.mono (by decide), h1.mono (by decide), h2.mono (by decide), h3.mono (by decide), h4.mono (by decide), by decide, ?_⟩
    rw [i3, i4]
    have cdx : CDivX Lq x := ⟨x0, bx'.mono (by decide)⟩
    repeat' (first
      | with_reducible apply R.var
      | with_reducible apply R.gsE
      | ((with_reducible apply R.gsN); (focus exact rfl))
      | with_reducible apply R.lenS
      | ((with_reducible apply R.lenB); exact rfl)
      | ((with_reducible apply R.isEq); exact rfl)
      | with_reducible apply R.op
      | with_reducible apply R.i2
      | with_reducible apply R.i0
      | with_reducible apply R.con
      | with_reducible apply R.cons
      | with_reducible apply R.nil
      | ((with_reducible apply R.gBd); first | with_reducible assumption | with_reducible apply Bd.mul | with_reducible apply Bd.add | with_reducible apply Bd.sub | ((with_reducible apply Bd.l8); exact eq_true (by decide)) | ((with_reducible apply Bd.lit); exact eq_true (by decide)) | with_reducible apply Bd.neg | with_reducible apply Bd.div | with_reducible apply Bd.abs | with_reducible apply Bd.mod | with_reducible apply Bd.fdiv | ((with_reducible apply Bd.om); omega))
      | with_reducible apply Bd.mulW
      | ((with_reducible apply R.gSqT); first | with_reducible assumption | ((with_reducible apply SqT.of); with_reducible assumption) | ((with_reducible apply same_seqT); with_reducible assumption) | ((with_reducible apply kp_seqT); with_reducible assumption) | with_reducible apply hU)
      | ((with_reducible apply R.isLe); first | decide | omega)
      | with_reducible apply R.gcons
      | with_reducible apply R.gname
      | ((with_reducible apply R.ixT); (focus ((repeat' (first | with_reducible assumption | with_reducible apply hU | ((with_reducible apply SqT.of); with_reducible assumption) | ((with_reducible apply same_seqT); with_reducible assumption) | ((with_reducible apply kp_seqT); with_reducible assumption) | ((with_reducible apply Dw.same); with_reducible assumption))); done)); exact rfl)
      | ((with_reducible apply R.ixL); (focus ((repeat' (first | with_reducible assumption | ((with_reducible apply SqL.of); with_reducible assumption) | ((with_reducible apply Same.seq); with_reducible assumption) | ((with_reducible apply Kp.seqL); with_reducible assumption) | ((with_reducible apply fresh_ne); with_reducible assumption) | ((with_reducible apply Dw.same); with_reducible assumption))); done)); exact rfl)
      | with_reducible apply R.test
      | with_reducible apply R.tb'
      | with_reducible apply R.isbl
      | with_reducible apply R.cmp
      | with_reducible apply R.t2i
      | with_reducible apply R.intp
      | with_reducible apply R.ifs
      | with_reducible apply R.asg
      | with_reducible apply R.seq
      | with_reducible apply R.gtup
      | with_reducible apply R.u1
      | with_reducible apply R.un
      | with_reducible apply R.ret
      | with_reducible apply R.next
      | with_reducible apply R.call
      | with_reducible apply iteT
      | with_reducible apply iteF
      | with_reducible assumption
      | with_reducible apply R.tup
      | with_reducible apply R.lst
      | with_reducible apply R.callB
      | with_reducible apply R.gnil
      | with_reducible apply R.brk
      | with_reducible apply R.cont
      | with_reducible apply R.drop
      | with_reducible apply R.par
      | with_reducible apply R.par2
      | with_reducible apply R.par3
      | with_reducible apply R.par4
      | with_reducible apply R.tif
      | with_reducible apply R.and
      | with_reducible apply R.or
      | with_reducible apply R.not
      | with_reducible apply R.andV
      | with_reducible apply R.orV
      | with_reducible apply R.notV
      | with_reducible apply R.chain
      | with_reducible apply R.tupL
      | with_reducible apply R.lstL
      | with_reducible apply R.cat
      | with_reducible apply R.absI
      | with_reducible apply R.intI
      | with_reducible apply R.intB
      | with_reducible apply R.eqS
      | with_reducible apply R.eqBl
      | with_reducible apply R.neBl
      | with_reducible apply R.sl
      | with_reducible apply R.noPart
      | with_reducible apply R.part
      | with_reducible apply R.isInt
      | with_reducible apply R.slL
      | with_reducible apply R.isiT
      | with_reducible apply R.isiLst
      | with_reducible apply R.nwT
      | with_reducible apply R.nwL
      | ((with_reducible apply R.mt); intro HN tn sn nn ht)
      | ((with_reducible apply R.ml); intro HN tn sn nn ht)
      | ((with_reducible apply R.isiTupS); focus ((repeat' (first | with_reducible assumption | with_reducible apply hU | ((with_reducible apply SqT.of); with_reducible assumption) | ((with_reducible apply same_seqT); with_reducible assumption) | ((with_reducible apply kp_seqT); with_reducible assumption) | ((with_reducible apply Dw.same); with_reducible assumption))); done))
      | ((with_reducible apply R.ne4); focus ((repeat' (first | with_reducible assumption | with_reducible apply hU | ((with_reducible apply SqT.of); with_reducible assumption) | ((with_reducible apply same_seqT); with_reducible assumption) | ((with_reducible apply kp_seqT); with_reducible assumption) | ((with_reducible apply Dw.same); with_reducible assumption))); done))
      | ((with_reducible apply R.ne3); focus ((repeat' (first | with_reducible assumption | with_reducible apply hU | ((with_reducible apply SqT.of); with_reducible assumption) | ((with_reducible apply same_seqT); with_reducible assumption) | ((with_reducible apply kp_seqT); with_reducible assumption) | ((with_reducible apply Dw.same); with_reducible assumption))); done))
      | ((with_reducible apply R.ne2); focus ((repeat' (first | with_reducible assumption | with_reducible apply hU | ((with_reducible apply SqT.of); with_reducible assumption) | ((with_reducible apply same_seqT); with_reducible assumption) | ((with_reducible apply kp_seqT); with_reducible assumption) | ((with_reducible apply Dw.same); with_reducible assumption))); done))
      | ((with_reducible apply R.eq4); focus ((repeat' (first | with_reducible assumption | with_reducible apply hU | ((with_reducible apply SqT.of); with_reducible assumption) | ((with_reducible apply same_seqT); with_reducible assumption) | ((with_reducible apply kp_seqT); with_reducible assumption) | ((with_reducible apply Dw.same); with_reducible assumption))); done))
      | ((with_reducible apply R.eq3); focus ((repeat' (first | with_reducible assumption | with_reducible apply hU | ((with_reducible apply SqT.of); with_reducible assumption) | ((with_reducible apply same_seqT); with_reducible assumption) | ((with_reducible apply kp_seqT); with_reducible assumption) | ((with_reducible apply Dw.same); with_reducible assumption))); done))
      | ((with_reducible apply R.eq2); focus ((repeat' (first | with_reducible assumption | with_reducible apply hU | ((with_reducible apply SqT.of); with_reducible assumption) | ((with_reducible apply same_seqT); with_reducible assumption) | ((with_reducible apply kp_seqT); with_reducible assumption) | ((with_reducible apply Dw.same); with_reducible assumption))); done))
      | ((with_reducible apply R.nw); intro HN tn sn ht)
      | with_reducible apply R.notT
      | with_reducible apply R.notF
      | ((with_reducible apply SqL.of); with_reducible assumption)
      | ((with_reducible apply sameB); with_reducible assumption)
      | ((with_reducible apply same_at); with_reducible assumption)
      | ((with_reducible apply Same.seq); with_reducible assumption)
      | ((with_reducible apply Kp.seqL); with_reducible assumption)
      | ((with_reducible apply fresh_ne); with_reducible assumption)
      | ((with_reducible apply Dw.same); with_reducible assumption)
      | ((with_reducible apply R.isEq); exact eq_true (by first | decide | omega))
      | ((with_reducible apply R.isLt); first | decide | omega)
      | ((with_reducible apply R.isLtI); first | decide | omega)
      | ((with_reducible apply R.isLeI); first | decide | omega)
      | ((with_reducible apply R.cdiv); exact rfl)
      | ((with_reducible apply R.cpow); exact rfl)
      | with_reducible apply R.cdivX
      | ((with_reducible apply R.isNe); omega)
      | ((with_reducible apply wayNF); first | exact rfl | exact ⟨rfl, rfl⟩ | exact ⟨rfl, rfl, rfl⟩ | exact ⟨rfl, rfl, rfl, rfl⟩)
      | with_reducible apply R.bm
      | ((with_reducible apply R.bmT); (focus ((first | with_reducible assumption | ((with_reducible apply same_at); with_reducible assumption) | ((with_reducible apply kp_at); with_reducible assumption)); done)))
      | with_reducible apply R.dput
      | with_reducible apply R.dget
      | with_reducible apply R.din
      | with_reducible apply R.dget2
      | with_reducible apply R.forE
      | with_reducible apply R.rng1
      | with_reducible apply R.rng2
      | with_reducible apply R.rg1
      | with_reducible apply R.rg2
      | with_reducible apply R.lcE
      | with_reducible apply R.itup
      | with_reducible apply R.ilst
      | with_reducible apply uLawNext
      | with_reducible apply uLawChange
      | with_reducible apply uMultiply
      | with_reducible apply uDeterminant
      | with_reducible apply uNegative
      | with_reducible apply uLawMul
      | with_reducible apply uLawWorth
      | with_reducible apply uWorth
      | with_reducible apply uScaled
      | with_reducible apply uDiscriminant
      | with_reducible apply uInverse
      | with_reducible apply uLawAct
      | with_reducible apply uScaled
      | with_reducible apply uLawSquare
      | with_reducible apply uLawRoot
      | with_reducible apply uFloorRoot
      | with_reducible apply uIsReducedDefinite
      | with_reducible apply uStepDown
      | with_reducible apply uScaled
      | with_reducible apply uIsReducedIndefinite
      | with_reducible apply uStepOf
      | with_reducible apply uStepNear
      | with_reducible apply uDirected
      | with_reducible apply uCompleted
      | with_reducible apply uBezout
      | with_reducible apply uFloorRoot
      | with_reducible apply uDiscriminant
      | with_reducible apply uContent
      | with_reducible apply uFlatParts
      | with_reducible apply uCycle
      | with_reducible apply uKind
      | with_reducible apply uIsSquare
      | fail
      )
    generalize Lq.fdiv x = L at *
    have sMt := same_seqT (by array_mem_dec : Same H6 HN) sMt
    have sNt := same_seqT (by array_mem_dec : Same H6 HN) sNt
    have s8 : Same H HN := s7.trans (by array_mem_dec)
    have sC := SqT.of (K := K) ht
    clear ht cdx sf sg sn
    generalize tn = tC at *
    generalize HN = H8 at *
    have q2' : c1 = A2 * L := q2'
    have q1 : L * x = Lq := q1
    have q3 : Lq = x * L := by rw [← q1, Int.mul_comm]
    have G1 : FdF d (x, Mid, A2 * L) := q2' ▸ G1
    have G2 : FdF d (A2, Mid, x * L) := q3 ▸ G2
    have E0 := cmp_unit x A2 Mid L
    have D0 : FdF d (x * A2, Mid, L) := ⟨(cmp_ds E0).2.trans G1.ds, prm_ct (unit_prm G1.prm G2.prm), fun z => Int.mul_pos (G1.po z) (G2.po z)⟩
    have dab : d.natAbs ≤ 401 := by
      rcases v with v | v
      · omega
      · have := v.lo
        have := v.hi
        omega
    have bL : L.natAbs ≤ (x * A2).natAbs + 222 := unit_small D0.ds dab (Int.mul_ne_zero x0 A20) bMid
    have D1 := D0.ins v
    have bxA2 : (x * A2).natAbs ≤ 274877906944 := by omega
    have bMid2 : Mid.natAbs ≤ 274877906944 := by omega
    have bL2 : L.natAbs ≤ 274877906944 := by omega
    refine uCanonicalForm rfl sC D1 bxA2 bMid2 bL2 ?_
    intro H9 t3 tF tB X3 Y3 Z3 k1 k2 k3 k4 s9 ht3 sF sB C9
    have sMt := same_seqT s9 sMt
    have sNt := same_seqT s9 sNt
    repeat' (first
      | with_reducible apply R.var
      | with_reducible apply R.gsE
      | ((with_reducible apply R.gsN); (focus exact rfl))
      | with_reducible apply R.lenS
      | ((with_reducible apply R.lenB); exact rfl)
      | ((with_reducible apply R.isEq); exact rfl)
      | with_reducible apply R.op
      | with_reducible apply R.i2
      | with_reducible apply R.i0
      | with_reducible apply R.con
      | with_reducible apply R.cons
      | with_reducible apply R.nil
      | ((with_reducible apply R.gBd); first | with_reducible assumption | with_reducible apply Bd.mul | with_reducible apply Bd.add | with_reducible apply Bd.sub | ((with_reducible apply Bd.l8); exact eq_true (by decide)) | ((with_reducible apply Bd.lit); exact eq_true (by decide)) | with_reducible apply Bd.neg | with_reducible apply Bd.div | with_reducible apply Bd.abs | with_reducible apply Bd.mod | with_reducible apply Bd.fdiv | ((with_reducible apply Bd.om); omega))
      | with_reducible apply Bd.mulW
      | ((with_reducible apply R.gSqT); first | with_reducible assumption | ((with_reducible apply SqT.of); with_reducible assumption) | ((with_reducible apply same_seqT); with_reducible assumption) | ((with_reducible apply kp_seqT); with_reducible assumption) | with_reducible apply hU)
      | ((with_reducible apply R.isLe); first | decide | omega)
      | with_reducible apply R.gcons
      | with_reducible apply R.gname
      | ((with_reducible apply R.ixT); (focus ((repeat' (first | with_reducible assumption | with_reducible apply hU | ((with_reducible apply SqT.of); with_reducible assumption) | ((with_reducible apply same_seqT); with_reducible assumption) | ((with_reducible apply kp_seqT); with_reducible assumption) | ((with_reducible apply Dw.same); with_reducible assumption))); done)); exact rfl)
      | ((with_reducible apply R.ixL); (focus ((repeat' (first | with_reducible assumption | ((with_reducible apply SqL.of); with_reducible assumption) | ((with_reducible apply Same.seq); with_reducible assumption) | ((with_reducible apply Kp.seqL); with_reducible assumption) | ((with_reducible apply fresh_ne); with_reducible assumption) | ((with_reducible apply Dw.same); with_reducible assumption))); done)); exact rfl)
      | with_reducible apply R.test
      | with_reducible apply R.tb'
      | with_reducible apply R.isbl
      | with_reducible apply R.cmp
      | with_reducible apply R.t2i
      | with_reducible apply R.intp
      | with_reducible apply R.ifs
      | with_reducible apply R.asg
      | with_reducible apply R.seq
      | with_reducible apply R.gtup
      | with_reducible apply R.u1
      | with_reducible apply R.un
      | with_reducible apply R.ret
      | with_reducible apply R.next
      | with_reducible apply R.call
      | with_reducible apply iteT
      | with_reducible apply iteF
      | with_reducible assumption
      | with_reducible apply R.tup
      | with_reducible apply R.lst
      | with_reducible apply R.callB
      | with_reducible apply R.gnil
      | with_reducible apply R.brk
      | with_reducible apply R.cont
      | with_reducible apply R.drop
      | with_reducible apply R.par
      | with_reducible apply R.par2
      | with_reducible apply R.par3
      | with_reducible apply R.par4
      | with_reducible apply R.tif
      | with_reducible apply R.and
      | with_reducible apply R.or
      | with_reducible apply R.not
      | with_reducible apply R.andV
      | with_reducible apply R.orV
      | with_reducible apply R.notV
      | with_reducible apply R.chain
      | with_reducible apply R.tupL
      | with_reducible apply R.lstL
      | with_reducible apply R.cat
      | with_reducible apply R.absI
      | with_reducible apply R.intI
      | with_reducible apply R.intB
      | with_reducible apply R.eqS
      | with_reducible apply R.eqBl
      | with_reducible apply R.neBl
      | with_reducible apply R.sl
      | with_reducible apply R.noPart
      | with_reducible apply R.part
      | with_reducible apply R.isInt
      | with_reducible apply R.slL
      | with_reducible apply R.isiT
      | with_reducible apply R.isiLst
      | with_reducible apply R.nwT
      | with_reducible apply R.nwL
      | ((with_reducible apply R.mt); intro HN tn sn nn ht)
      | ((with_reducible apply R.ml); intro HN tn sn nn ht)
      | ((with_reducible apply R.isiTupS); focus ((repeat' (first | with_reducible assumption | with_reducible apply hU | ((with_reducible apply SqT.of); with_reducible assumption) | ((with_reducible apply same_seqT); with_reducible assumption) | ((with_reducible apply kp_seqT); with_reducible assumption) | ((with_reducible apply Dw.same); with_reducible assumption))); done))
      | ((with_reducible apply R.ne4); focus ((repeat' (first | with_reducible assumption | with_reducible apply hU | ((with_reducible apply SqT.of); with_reducible assumption) | ((with_reducible apply same_seqT); with_reducible assumption) | ((with_reducible apply kp_seqT); with_reducible assumption) | ((with_reducible apply Dw.same); with_reducible assumption))); done))
      | ((with_reducible apply R.ne3); focus ((repeat' (first | with_reducible assumption | with_reducible apply hU | ((with_reducible apply SqT.of); with_reducible assumption) | ((with_reducible apply same_seqT); with_reducible assumption) | ((with_reducible apply kp_seqT); with_reducible assumption) | ((with_reducible apply Dw.same); with_reducible assumption))); done))
      | ((with_reducible apply R.ne2); focus ((repeat' (first | with_reducible assumption | with_reducible apply hU | ((with_reducible apply SqT.of); with_reducible assumption) | ((with_reducible apply same_seqT); with_reducible assumption) | ((with_reducible apply kp_seqT); with_reducible assumption) | ((with_reducible apply Dw.same); with_reducible assumption))); done))
      | ((with_reducible apply R.eq4); focus ((repeat' (first | with_reducible assumption | with_reducible apply hU | ((with_reducible apply SqT.of); with_reducible assumption) | ((with_reducible apply same_seqT); with_reducible assumption) | ((with_reducible apply kp_seqT); with_reducible assumption) | ((with_reducible apply Dw.same); with_reducible assumption))); done))
      | ((with_reducible apply R.eq3); focus ((repeat' (first | with_reducible assumption | with_reducible apply hU | ((with_reducible apply SqT.of); with_reducible assumption) | ((with_reducible apply same_seqT); with_reducible assumption) | ((with_reducible apply kp_seqT); with_reducible assumption) | ((with_reducible apply Dw.same); with_reducible assumption))); done))
      | ((with_reducible apply R.eq2); focus ((repeat' (first | with_reducible assumption | with_reducible apply hU | ((with_reducible apply SqT.of); with_reducible assumption) | ((with_reducible apply same_seqT); with_reducible assumption) | ((with_reducible apply kp_seqT); with_reducible assumption) | ((with_reducible apply Dw.same); with_reducible assumption))); done))
      | ((with_reducible apply R.nw); intro HN tn sn ht)
      | with_reducible apply R.notT
      | with_reducible apply R.notF
      | ((with_reducible apply SqL.of); with_reducible assumption)
      | ((with_reducible apply sameB); with_reducible assumption)
      | ((with_reducible apply same_at); with_reducible assumption)
      | ((with_reducible apply Same.seq); with_reducible assumption)
      | ((with_reducible apply Kp.seqL); with_reducible assumption)
      | ((with_reducible apply fresh_ne); with_reducible assumption)
      | ((with_reducible apply Dw.same); with_reducible assumption)
      | ((with_reducible apply R.isEq); exact eq_true (by first | decide | omega))
      | ((with_reducible apply R.isLt); first | decide | omega)
      | ((with_reducible apply R.isLtI); first | decide | omega)
      | ((with_reducible apply R.isLeI); first | decide | omega)
      | ((with_reducible apply R.cdiv); exact rfl)
      | ((with_reducible apply R.cpow); exact rfl)
      | with_reducible apply R.cdivX
      | ((with_reducible apply R.isNe); omega)
      | ((with_reducible apply wayNF); first | exact rfl | exact ⟨rfl, rfl⟩ | exact ⟨rfl, rfl, rfl⟩ | exact ⟨rfl, rfl, rfl, rfl⟩)
      | with_reducible apply R.bm
      | ((with_reducible apply R.bmT); (focus ((first | with_reducible assumption | ((with_reducible apply same_at); with_reducible assumption) | ((with_reducible apply kp_at); with_reducible assumption)); done)))
      | with_reducible apply R.dput
      | with_reducible apply R.dget
      | with_reducible apply R.din
      | with_reducible apply R.dget2
      | with_reducible apply R.forE
      | with_reducible apply R.rng1
      | with_reducible apply R.rng2
      | with_reducible apply R.rg1
      | with_reducible apply R.rg2
      | with_reducible apply R.lcE
      | with_reducible apply R.itup
      | with_reducible apply R.ilst
      | with_reducible apply uLawNext
      | with_reducible apply uLawChange
      | with_reducible apply uDeterminant
      | with_reducible apply uNegative
      | with_reducible apply uLawMul
      | with_reducible apply uLawWorth
      | with_reducible apply uWorth
      | with_reducible apply uScaled
      | with_reducible apply uDiscriminant
      | with_reducible apply uLawAct
      | with_reducible apply uScaled
      | with_reducible apply uLawSquare
      | with_reducible apply uLawRoot
      | with_reducible apply uFloorRoot
      | with_reducible apply uIsReducedDefinite
      | with_reducible apply uStepDown
      | with_reducible apply uScaled
      | with_reducible apply uIsReducedIndefinite
      | with_reducible apply uStepOf
      | with_reducible apply uStepNear
      | with_reducible apply uDirected
      | with_reducible apply uCompleted
      | with_reducible apply uBezout
      | with_reducible apply uFloorRoot
      | with_reducible apply uDiscriminant
      | with_reducible apply uContent
      | with_reducible apply uFlatParts
      | with_reducible apply uCycle
      | with_reducible apply uKind
      | with_reducible apply uIsSquare
      | fail
      )
    refine ⟨tM, M1, M2, M3, M4, 58000, rfl, by simp_wf, f1.mono (by decide), f2.mono (by decide), f3.mono (by decide), f4.mono (by decide), by decide, .inl m1, ?_⟩
    rw [m1, Int.one_mul, Int.one_mul, Int.one_mul, Int.one_mul]
    repeat' (first
      | with_reducible apply R.var
      | with_reducible apply R.gsE
      | ((with_reducible apply R.gsN); (focus exact rfl))
      | with_reducible apply R.lenS
      | ((with_reducible apply R.lenB); exact rfl)
      | ((with_reducible apply R.isEq); exact rfl)
      | with_reducible apply R.op
      | with_reducible apply R.i2
      | with_reducible apply R.i0
      | with_reducible apply R.con
      | with_reducible apply R.cons
      | with_reducible apply R.nil
      | ((with_reducible apply R.gBd); first | with_reducible assumption | with_reducible apply Bd.mul | with_reducible apply Bd.add | with_reducible apply Bd.sub | ((with_reducible apply Bd.l8); exact eq_true (by decide)) | ((with_reducible apply Bd.lit); exact eq_true (by decide)) | with_reducible apply Bd.neg | with_reducible apply Bd.div | with_reducible apply Bd.abs | with_reducible apply Bd.mod | with_reducible apply Bd.fdiv | ((with_reducible apply Bd.om); omega))
      | with_reducible apply Bd.mulW
      | ((with_reducible apply R.gSqT); first | with_reducible assumption | ((with_reducible apply SqT.of); with_reducible assumption) | ((with_reducible apply same_seqT); with_reducible assumption) | ((with_reducible apply kp_seqT); with_reducible assumption) | with_reducible apply hU)
      | ((with_reducible apply R.isLe); first | decide | omega)
      | with_reducible apply R.gcons
      | with_reducible apply R.gname
      | ((with_reducible apply R.ixT); (focus ((repeat' (first | with_reducible assumption | with_reducible apply hU | ((with_reducible apply SqT.of); with_reducible assumption) | ((with_reducible apply same_seqT); with_reducible assumption) | ((with_reducible apply kp_seqT); with_reducible assumption) | ((with_reducible apply Dw.same); with_reducible assumption))); done)); exact rfl)
      | ((with_reducible apply R.ixL); (focus ((repeat' (first | with_reducible assumption | ((with_reducible apply SqL.of); with_reducible assumption) | ((with_reducible apply Same.seq); with_reducible assumption) | ((with_reducible apply Kp.seqL); with_reducible assumption) | ((with_reducible apply fresh_ne); with_reducible assumption) | ((with_reducible apply Dw.same); with_reducible assumption))); done)); exact rfl)
      | with_reducible apply R.test
      | with_reducible apply R.tb'
      | with_reducible apply R.isbl
      | with_reducible apply R.cmp
      | with_reducible apply R.t2i
      | with_reducible apply R.intp
      | with_reducible apply R.ifs
      | with_reducible apply R.asg
      | with_reducible apply R.seq
      | with_reducible apply R.gtup
      | with_reducible apply R.u1
      | with_reducible apply R.un
      | with_reducible apply R.ret
      | with_reducible apply R.next
      | with_reducible apply R.call
      | with_reducible apply iteT
      | with_reducible apply iteF
      | with_reducible assumption
      | with_reducible apply R.tup
      | with_reducible apply R.lst
      | with_reducible apply R.callB
      | with_reducible apply R.gnil
      | with_reducible apply R.brk
      | with_reducible apply R.cont
      | with_reducible apply R.drop
      | with_reducible apply R.par
      | with_reducible apply R.par2
      | with_reducible apply R.par3
      | with_reducible apply R.par4
      | with_reducible apply R.tif
      | with_reducible apply R.and
      | with_reducible apply R.or
      | with_reducible apply R.not
      | with_reducible apply R.andV
      | with_reducible apply R.orV
      | with_reducible apply R.notV
      | with_reducible apply R.chain
      | with_reducible apply R.tupL
      | with_reducible apply R.lstL
      | with_reducible apply R.cat
      | with_reducible apply R.absI
      | with_reducible apply R.intI
      | with_reducible apply R.intB
      | with_reducible apply R.eqS
      | with_reducible apply R.eqBl
      | with_reducible apply R.neBl
      | with_reducible apply R.sl
      | with_reducible apply R.noPart
      | with_reducible apply R.part
      | with_reducible apply R.isInt
      | with_reducible apply R.slL
      | with_reducible apply R.isiT
      | with_reducible apply R.isiLst
      | with_reducible apply R.nwT
      | with_reducible apply R.nwL
      | ((with_reducible apply R.mt); intro HN tn sn nn ht)
      | ((with_reducible apply R.ml); intro HN tn sn nn ht)
      | ((with_reducible apply R.isiTupS); focus ((repeat' (first | with_reducible assumption | with_reducible apply hU | ((with_reducible apply SqT.of); with_reducible assumption) | ((with_reducible apply same_seqT); with_reducible assumption) | ((with_reducible apply kp_seqT); with_reducible assumption) | ((with_reducible apply Dw.same); with_reducible assumption))); done))
      | ((with_reducible apply R.ne4); focus ((repeat' (first | with_reducible assumption | with_reducible apply hU | ((with_reducible apply SqT.of); with_reducible assumption) | ((with_reducible apply same_seqT); with_reducible assumption) | ((with_reducible apply kp_seqT); with_reducible assumption) | ((with_reducible apply Dw.same); with_reducible assumption))); done))
      | ((with_reducible apply R.ne3); focus ((repeat' (first | with_reducible assumption | with_reducible apply hU | ((with_reducible apply SqT.of); with_reducible assumption) | ((with_reducible apply same_seqT); with_reducible assumption) | ((with_reducible apply kp_seqT); with_reducible assumption) | ((with_reducible apply Dw.same); with_reducible assumption))); done))
      | ((with_reducible apply R.ne2); focus ((repeat' (first | with_reducible assumption | with_reducible apply hU | ((with_reducible apply SqT.of); with_reducible assumption) | ((with_reducible apply same_seqT); with_reducible assumption) | ((with_reducible apply kp_seqT); with_reducible assumption) | ((with_reducible apply Dw.same); with_reducible assumption))); done))
      | ((with_reducible apply R.eq4); focus ((repeat' (first | with_reducible assumption | with_reducible apply hU | ((with_reducible apply SqT.of); with_reducible assumption) | ((with_reducible apply same_seqT); with_reducible assumption) | ((with_reducible apply kp_seqT); with_reducible assumption) | ((with_reducible apply Dw.same); with_reducible assumption))); done))
      | ((with_reducible apply R.eq3); focus ((repeat' (first | with_reducible assumption | with_reducible apply hU | ((with_reducible apply SqT.of); with_reducible assumption) | ((with_reducible apply same_seqT); with_reducible assumption) | ((with_reducible apply kp_seqT); with_reducible assumption) | ((with_reducible apply Dw.same); with_reducible assumption))); done))
      | ((with_reducible apply R.eq2); focus ((repeat' (first | with_reducible assumption | with_reducible apply hU | ((with_reducible apply SqT.of); with_reducible assumption) | ((with_reducible apply same_seqT); with_reducible assumption) | ((with_reducible apply kp_seqT); with_reducible assumption) | ((with_reducible apply Dw.same); with_reducible assumption))); done))
      | ((with_reducible apply R.nw); intro HN tn sn ht)
      | with_reducible apply R.notT
      | with_reducible apply R.notF
      | ((with_reducible apply SqL.of); with_reducible assumption)
      | ((with_reducible apply sameB); with_reducible assumption)
      | ((with_reducible apply same_at); with_reducible assumption)
      | ((with_reducible apply Same.seq); with_reducible assumption)
      | ((with_reducible apply Kp.seqL); with_reducible assumption)
      | ((with_reducible apply fresh_ne); with_reducible assumption)
      | ((with_reducible apply Dw.same); with_reducible assumption)
      | ((with_reducible apply R.isEq); exact eq_true (by first | decide | omega))
      | ((with_reducible apply R.isLt); first | decide | omega)
      | ((with_reducible apply R.isLtI); first | decide | omega)
      | ((with_reducible apply R.isLeI); first | decide | omega)
      | ((with_reducible apply R.cdiv); exact rfl)
      | ((with_reducible apply R.cpow); exact rfl)
      | with_reducible apply R.cdivX
      | ((with_reducible apply R.isNe); omega)
      | ((with_reducible apply wayNF); first | exact rfl | exact ⟨rfl, rfl⟩ | exact ⟨rfl, rfl, rfl⟩ | exact ⟨rfl, rfl, rfl, rfl⟩)
      | with_reducible apply R.bm
      | ((with_reducible apply R.bmT); (focus ((first | with_reducible assumption | ((with_reducible apply same_at); with_reducible assumption) | ((with_reducible apply kp_at); with_reducible assumption)); done)))
      | with_reducible apply R.dput
      | with_reducible apply R.dget
      | with_reducible apply R.din
      | with_reducible apply R.dget2
      | with_reducible apply R.forE
      | with_reducible apply R.rng1
      | with_reducible apply R.rng2
      | with_reducible apply R.rg1
      | with_reducible apply R.rg2
      | with_reducible apply R.lcE
      | with_reducible apply R.itup
      | with_reducible apply R.ilst
      | with_reducible apply uLawNext
      | with_reducible apply uLawChange
      | with_reducible apply uDeterminant
      | with_reducible apply uNegative
      | with_reducible apply uLawMul
      | with_reducible apply uLawWorth
      | with_reducible apply uWorth
      | with_reducible apply uScaled
      | with_reducible apply uDiscriminant
      | with_reducible apply uLawAct
      | with_reducible apply uScaled
      | with_reducible apply uLawSquare
      | with_reducible apply uLawRoot
      | with_reducible apply uFloorRoot
      | with_reducible apply uIsReducedDefinite
      | with_reducible apply uStepDown
      | with_reducible apply uScaled
      | with_reducible apply uIsReducedIndefinite
      | with_reducible apply uStepOf
      | with_reducible apply uStepNear
      | with_reducible apply uDirected
      | with_reducible apply uCompleted
      | with_reducible apply uBezout
      | with_reducible apply uFloorRoot
      | with_reducible apply uDiscriminant
      | with_reducible apply uContent
      | with_reducible apply uFlatParts
      | with_reducible apply uCycle
      | with_reducible apply uKind
      | with_reducible apply uIsSquare
      | fail
      )
    refine ⟨tN, N1, N2, N3, N4, 58000, rfl, by simp_wf, h1.mono (by decide), h2.mono (by decide), h3.mono (by decide), h4.mono (by decide), by decide, .inl m2, ?_⟩
    rw [m2, Int.one_mul, Int.one_mul, Int.one_mul, Int.one_mul]
    repeat' (first
      | with_reducible apply R.var
      | with_reducible apply R.gsE
      | ((with_reducible apply R.gsN); (focus exact rfl))
      | with_reducible apply R.lenS
      | ((with_reducible apply R.lenB); exact rfl)
      | ((with_reducible apply R.isEq); exact rfl)
      | with_reducible apply R.op
      | with_reducible apply R.i2
      | with_reducible apply R.i0
      | with_reducible apply R.con
      | with_reducible apply R.cons
      | with_reducible apply R.nil
      | ((with_reducible apply R.gBd); first | with_reducible assumption | with_reducible apply Bd.mul | with_reducible apply Bd.add | with_reducible apply Bd.sub | ((with_reducible apply Bd.l8); exact eq_true (by decide)) | ((with_reducible apply Bd.lit); exact eq_true (by decide)) | with_reducible apply Bd.neg | with_reducible apply Bd.div | with_reducible apply Bd.abs | with_reducible apply Bd.mod | with_reducible apply Bd.fdiv | ((with_reducible apply Bd.om); omega))
      | with_reducible apply Bd.mulW
      | ((with_reducible apply R.gSqT); first | with_reducible assumption | ((with_reducible apply SqT.of); with_reducible assumption) | ((with_reducible apply same_seqT); with_reducible assumption) | ((with_reducible apply kp_seqT); with_reducible assumption) | with_reducible apply hU)
      | ((with_reducible apply R.isLe); first | decide | omega)
      | with_reducible apply R.gcons
      | with_reducible apply R.gname
      | ((with_reducible apply R.ixT); (focus ((repeat' (first | with_reducible assumption | with_reducible apply hU | ((with_reducible apply SqT.of); with_reducible assumption) | ((with_reducible apply same_seqT); with_reducible assumption) | ((with_reducible apply kp_seqT); with_reducible assumption) | ((with_reducible apply Dw.same); with_reducible assumption))); done)); exact rfl)
      | ((with_reducible apply R.ixL); (focus ((repeat' (first | with_reducible assumption | ((with_reducible apply SqL.of); with_reducible assumption) | ((with_reducible apply Same.seq); with_reducible assumption) | ((with_reducible apply Kp.seqL); with_reducible assumption) | ((with_reducible apply fresh_ne); with_reducible assumption) | ((with_reducible apply Dw.same); with_reducible assumption))); done)); exact rfl)
      | with_reducible apply R.test
      | with_reducible apply R.tb'
      | with_reducible apply R.isbl
      | with_reducible apply R.cmp
      | with_reducible apply R.t2i
      | with_reducible apply R.intp
      | with_reducible apply R.ifs
      | with_reducible apply R.asg
      | with_reducible apply R.seq
      | with_reducible apply R.gtup
      | with_reducible apply R.u1
      | with_reducible apply R.un
      | with_reducible apply R.ret
      | with_reducible apply R.next
      | with_reducible apply R.call
      | with_reducible apply iteT
      | with_reducible apply iteF
      | with_reducible assumption
      | with_reducible apply R.tup
      | with_reducible apply R.lst
      | with_reducible apply R.callB
      | with_reducible apply R.gnil
      | with_reducible apply R.brk
      | with_reducible apply R.cont
      | with_reducible apply R.drop
      | with_reducible apply R.par
      | with_reducible apply R.par2
      | with_reducible apply R.par3
      | with_reducible apply R.par4
      | with_reducible apply R.tif
      | with_reducible apply R.and
      | with_reducible apply R.or
      | with_reducible apply R.not
      | with_reducible apply R.andV
      | with_reducible apply R.orV
      | with_reducible apply R.notV
      | with_reducible apply R.chain
      | with_reducible apply R.tupL
      | with_reducible apply R.lstL
      | with_reducible apply R.cat
      | with_reducible apply R.absI
      | with_reducible apply R.intI
      | with_reducible apply R.intB
      | with_reducible apply R.eqS
      | with_reducible apply R.eqBl
      | with_reducible apply R.neBl
      | with_reducible apply R.sl
      | with_reducible apply R.noPart
      | with_reducible apply R.part
      | with_reducible apply R.isInt
      | with_reducible apply R.slL
      | with_reducible apply R.isiT
      | with_reducible apply R.isiLst
      | with_reducible apply R.nwT
      | with_reducible apply R.nwL
      | ((with_reducible apply R.mt); intro HN tn sn nn ht)
      | ((with_reducible apply R.ml); intro HN tn sn nn ht)
      | ((with_reducible apply R.isiTupS); focus ((repeat' (first | with_reducible assumption | with_reducible apply hU | ((with_reducible apply SqT.of); with_reducible assumption) | ((with_reducible apply same_seqT); with_reducible assumption) | ((with_reducible apply kp_seqT); with_reducible assumption) | ((with_reducible apply Dw.same); with_reducible assumption))); done))
      | ((with_reducible apply R.ne4); focus ((repeat' (first | with_reducible assumption | with_reducible apply hU | ((with_reducible apply SqT.of); with_reducible assumption) | ((with_reducible apply same_seqT); with_reducible assumption) | ((with_reducible apply kp_seqT); with_reducible assumption) | ((with_reducible apply Dw.same); with_reducible assumption))); done))
      | ((with_reducible apply R.ne3); focus ((repeat' (first | with_reducible assumption | with_reducible apply hU | ((with_reducible apply SqT.of); with_reducible assumption) | ((with_reducible apply same_seqT); with_reducible assumption) | ((with_reducible apply kp_seqT); with_reducible assumption) | ((with_reducible apply Dw.same); with_reducible assumption))); done))
      | ((with_reducible apply R.ne2); focus ((repeat' (first | with_reducible assumption | with_reducible apply hU | ((with_reducible apply SqT.of); with_reducible assumption) | ((with_reducible apply same_seqT); with_reducible assumption) | ((with_reducible apply kp_seqT); with_reducible assumption) | ((with_reducible apply Dw.same); with_reducible assumption))); done))
      | ((with_reducible apply R.eq4); focus ((repeat' (first | with_reducible assumption | with_reducible apply hU | ((with_reducible apply SqT.of); with_reducible assumption) | ((with_reducible apply same_seqT); with_reducible assumption) | ((with_reducible apply kp_seqT); with_reducible assumption) | ((with_reducible apply Dw.same); with_reducible assumption))); done))
      | ((with_reducible apply R.eq3); focus ((repeat' (first | with_reducible assumption | with_reducible apply hU | ((with_reducible apply SqT.of); with_reducible assumption) | ((with_reducible apply same_seqT); with_reducible assumption) | ((with_reducible apply kp_seqT); with_reducible assumption) | ((with_reducible apply Dw.same); with_reducible assumption))); done))
      | ((with_reducible apply R.eq2); focus ((repeat' (first | with_reducible assumption | with_reducible apply hU | ((with_reducible apply SqT.of); with_reducible assumption) | ((with_reducible apply same_seqT); with_reducible assumption) | ((with_reducible apply kp_seqT); with_reducible assumption) | ((with_reducible apply Dw.same); with_reducible assumption))); done))
      | ((with_reducible apply R.nw); intro HN tn sn ht)
      | with_reducible apply R.notT
      | with_reducible apply R.notF
      | ((with_reducible apply SqL.of); with_reducible assumption)
      | ((with_reducible apply sameB); with_reducible assumption)
      | ((with_reducible apply same_at); with_reducible assumption)
      | ((with_reducible apply Same.seq); with_reducible assumption)
      | ((with_reducible apply Kp.seqL); with_reducible assumption)
      | ((with_reducible apply fresh_ne); with_reducible assumption)
      | ((with_reducible apply Dw.same); with_reducible assumption)
      | ((with_reducible apply R.isEq); exact eq_true (by first | decide | omega))
      | ((with_reducible apply R.isLt); first | decide | omega)
      | ((with_reducible apply R.isLtI); first | decide | omega)
      | ((with_reducible apply R.isLeI); first | decide | omega)
      | ((with_reducible apply R.cdiv); exact rfl)
      | ((with_reducible apply R.cpow); exact rfl)
      | with_reducible apply R.cdivX
      | ((with_reducible apply R.isNe); omega)
      | ((with_reducible apply wayNF); first | exact rfl | exact ⟨rfl, rfl⟩ | exact ⟨rfl, rfl, rfl⟩ | exact ⟨rfl, rfl, rfl, rfl⟩)
      | with_reducible apply R.bm
      | ((with_reducible apply R.bmT); (focus ((first | with_reducible assumption | ((with_reducible apply same_at); with_reducible assumption) | ((with_reducible apply kp_at); with_reducible assumption)); done)))
      | with_reducible apply R.dput
      | with_reducible apply R.dget
      | with_reducible apply R.din
      | with_reducible apply R.dget2
      | with_reducible apply R.forE
      | with_reducible apply R.rng1
      | with_reducible apply R.rng2
      | with_reducible apply R.rg1
      | with_reducible apply R.rg2
      | with_reducible apply R.lcE
      | with_reducible apply R.itup
      | with_reducible apply R.ilst
      | with_reducible apply uLawNext
      | with_reducible apply uLawChange
      | with_reducible apply uDeterminant
      | with_reducible apply uNegative
      | with_reducible apply uLawMul
      | with_reducible apply uLawWorth
      | with_reducible apply uWorth
      | with_reducible apply uScaled
      | with_reducible apply uDiscriminant
      | with_reducible apply uLawAct
      | with_reducible apply uScaled
      | with_reducible apply uLawSquare
      | with_reducible apply uLawRoot
      | with_reducible apply uFloorRoot
      | with_reducible apply uIsReducedDefinite
      | with_reducible apply uStepDown
      | with_reducible apply uScaled
      | with_reducible apply uIsReducedIndefinite
      | with_reducible apply uStepOf
      | with_reducible apply uStepNear
      | with_reducible apply uDirected
      | with_reducible apply uCompleted
      | with_reducible apply uBezout
      | with_reducible apply uFloorRoot
      | with_reducible apply uDiscriminant
      | with_reducible apply uContent
      | with_reducible apply uFlatParts
      | with_reducible apply uCycle
      | with_reducible apply uKind
      | with_reducible apply uIsSquare
      | fail
      )
    rename_i Hr tr sr hr0 Hi ti si hi
    have s10 := (sr.trans si).trans sn
    have sR := same_seqT (si.trans sn) (SqT.of (K := K) hr0)
    have sI := same_seqT sn (SqT.of (K := K) hi)
    have sJ := SqT.of (K := K) ht
    have sMt := same_seqT s10 sMt
    have sNt := same_seqT s10 sNt
    have sF := same_seqT s10 sF
    have sB := same_seqT s10 sB
    have s11 := (s8.trans s9).trans s10
    clear ht hi hr0 nn si sr sn s10 s8 s9 ht3
    generalize tn = tJ at *
    generalize HN = H10 at *
    have bI : BdM 37000 (M4, -M2, -M3, M1) := ⟨f4.mono (by decide), f2.neg.mono (by decide), f3.neg.mono (by decide), f1.mono (by decide)⟩
    have bJ : BdM 56500 (N4, -N2, -N3, N1) := ⟨h4.mono (by decide), h2.neg.mono (by decide), h3.neg.mono (by decide), h1.mono (by decide)⟩
    have c60 : Bd 62 L := (Bd.of bL2 (by decide) : Bd 50 L).mono (by decide)
    have c61 : Bd 62 x := bx'.mono (by decide)
    have c62 : Bd 62 A2 := (Bd.of aA (by decide) : Bd 50 A2).mono (by decide)
    have c63 : Bd 62 Mid := (Bd.of bMid2 (by decide) : Bd 50 Mid).mono (by decide)
    have r62 : BdM 62 (1, 0, 0, -L) := ⟨y1.mono (by decide), y0.mono (by decide), y0.mono (by decide), c60.neg⟩
    have t62 : BdM 62 (0, x, A2, Mid) := ⟨y0.mono (by decide), c61, c62, c63⟩
    refine ⟨tr, ti, tJ, (1, 0, 0, -L), (M4, -M2, -M3, M1), (N4, -N2, -N3, N1), rfl, sR, sI, sJ, r62, bI, bJ, ?_⟩
    intro H12 tU s12 sU
    have sMt := same_seqT s12 sMt
    have sNt := same_seqT s12 sNt
    repeat' (first
      | with_reducible apply R.var
      | with_reducible apply R.gsE
      | ((with_reducible apply R.gsN); (focus exact rfl))
      | with_reducible apply R.lenS
      | ((with_reducible apply R.lenB); exact rfl)
      | ((with_reducible apply R.isEq); exact rfl)
      | with_reducible apply R.op
      | with_reducible apply R.i2
      | with_reducible apply R.i0
      | with_reducible apply R.con
      | with_reducible apply R.cons
      | with_reducible apply R.nil
      | ((with_reducible apply R.gBd); first | with_reducible assumption | with_reducible apply Bd.mul | with_reducible apply Bd.add | with_reducible apply Bd.sub | ((with_reducible apply Bd.l8); exact eq_true (by decide)) | ((with_reducible apply Bd.lit); exact eq_true (by decide)) | with_reducible apply Bd.neg | with_reducible apply Bd.div | with_reducible apply Bd.abs | with_reducible apply Bd.mod | with_reducible apply Bd.fdiv | ((with_reducible apply Bd.om); omega))
      | with_reducible apply Bd.mulW
      | ((with_reducible apply R.gSqT); first | with_reducible assumption | ((with_reducible apply SqT.of); with_reducible assumption) | ((with_reducible apply same_seqT); with_reducible assumption) | ((with_reducible apply kp_seqT); with_reducible assumption) | with_reducible apply hU)
      | ((with_reducible apply R.isLe); first | decide | omega)
      | with_reducible apply R.gcons
      | with_reducible apply R.gname
      | ((with_reducible apply R.ixT); (focus ((repeat' (first | with_reducible assumption | with_reducible apply hU | ((with_reducible apply SqT.of); with_reducible assumption) | ((with_reducible apply same_seqT); with_reducible assumption) | ((with_reducible apply kp_seqT); with_reducible assumption) | ((with_reducible apply Dw.same); with_reducible assumption))); done)); exact rfl)
      | ((with_reducible apply R.ixL); (focus ((repeat' (first | with_reducible assumption | ((with_reducible apply SqL.of); with_reducible assumption) | ((with_reducible apply Same.seq); with_reducible assumption) | ((with_reducible apply Kp.seqL); with_reducible assumption) | ((with_reducible apply fresh_ne); with_reducible assumption) | ((with_reducible apply Dw.same); with_reducible assumption))); done)); exact rfl)
      | with_reducible apply R.test
      | with_reducible apply R.tb'
      | with_reducible apply R.isbl
      | with_reducible apply R.cmp
      | with_reducible apply R.t2i
      | with_reducible apply R.intp
      | with_reducible apply R.ifs
      | with_reducible apply R.asg
      | with_reducible apply R.seq
      | with_reducible apply R.gtup
      | with_reducible apply R.u1
      | with_reducible apply R.un
      | with_reducible apply R.ret
      | with_reducible apply R.next
      | with_reducible apply R.call
      | with_reducible apply iteT
      | with_reducible apply iteF
      | with_reducible assumption
      | with_reducible apply R.tup
      | with_reducible apply R.lst
      | with_reducible apply R.callB
      | with_reducible apply R.gnil
      | with_reducible apply R.brk
      | with_reducible apply R.cont
      | with_reducible apply R.drop
      | with_reducible apply R.par
      | with_reducible apply R.par2
      | with_reducible apply R.par3
      | with_reducible apply R.par4
      | with_reducible apply R.tif
      | with_reducible apply R.and
      | with_reducible apply R.or
      | with_reducible apply R.not
      | with_reducible apply R.andV
      | with_reducible apply R.orV
      | with_reducible apply R.notV
      | with_reducible apply R.chain
      | with_reducible apply R.tupL
      | with_reducible apply R.lstL
      | with_reducible apply R.cat
      | with_reducible apply R.absI
      | with_reducible apply R.intI
      | with_reducible apply R.intB
      | with_reducible apply R.eqS
      | with_reducible apply R.eqBl
      | with_reducible apply R.neBl
      | with_reducible apply R.sl
      | with_reducible apply R.noPart
      | with_reducible apply R.part
      | with_reducible apply R.isInt
      | with_reducible apply R.slL
      | with_reducible apply R.isiT
      | with_reducible apply R.isiLst
      | with_reducible apply R.nwT
      | with_reducible apply R.nwL
      | ((with_reducible apply R.mt); intro HN tn sn nn ht)
      | ((with_reducible apply R.ml); intro HN tn sn nn ht)
      | ((with_reducible apply R.isiTupS); focus ((repeat' (first | with_reducible assumption | with_reducible apply hU | ((with_reducible apply SqT.of); with_reducible assumption) | ((with_reducible apply same_seqT); with_reducible assumption) | ((with_reducible apply kp_seqT); with_reducible assumption) | ((with_reducible apply Dw.same); with_reducible assumption))); done))
      | ((with_reducible apply R.ne4); focus ((repeat' (first | with_reducible assumption | with_reducible apply hU | ((with_reducible apply SqT.of); with_reducible assumption) | ((with_reducible apply same_seqT); with_reducible assumption) | ((with_reducible apply kp_seqT); with_reducible assumption) | ((with_reducible apply Dw.same); with_reducible assumption))); done))
      | ((with_reducible apply R.ne3); focus ((repeat' (first | with_reducible assumption | with_reducible apply hU | ((with_reducible apply SqT.of); with_reducible assumption) | ((with_reducible apply same_seqT); with_reducible assumption) | ((with_reducible apply kp_seqT); with_reducible assumption) | ((with_reducible apply Dw.same); with_reducible assumption))); done))
      | ((with_reducible apply R.ne2); focus ((repeat' (first | with_reducible assumption | with_reducible apply hU | ((with_reducible apply SqT.of); with_reducible assumption) | ((with_reducible apply same_seqT); with_reducible assumption) | ((with_reducible apply kp_seqT); with_reducible assumption) | ((with_reducible apply Dw.same); with_reducible assumption))); done))
      | ((with_reducible apply R.eq4); focus ((repeat' (first | with_reducible assumption | with_reducible apply hU | ((with_reducible apply SqT.of); with_reducible assumption) | ((with_reducible apply same_seqT); with_reducible assumption) | ((with_reducible apply kp_seqT); with_reducible assumption) | ((with_reducible apply Dw.same); with_reducible assumption))); done))
      | ((with_reducible apply R.eq3); focus ((repeat' (first | with_reducible assumption | with_reducible apply hU | ((with_reducible apply SqT.of); with_reducible assumption) | ((with_reducible apply same_seqT); with_reducible assumption) | ((with_reducible apply kp_seqT); with_reducible assumption) | ((with_reducible apply Dw.same); with_reducible assumption))); done))
      | ((with_reducible apply R.eq2); focus ((repeat' (first | with_reducible assumption | with_reducible apply hU | ((with_reducible apply SqT.of); with_reducible assumption) | ((with_reducible apply same_seqT); with_reducible assumption) | ((with_reducible apply kp_seqT); with_reducible assumption) | ((with_reducible apply Dw.same); with_reducible assumption))); done))
      | ((with_reducible apply R.nw); intro HN tn sn ht)
      | with_reducible apply R.notT
      | with_reducible apply R.notF
      | ((with_reducible apply SqL.of); with_reducible assumption)
      | ((with_reducible apply sameB); with_reducible assumption)
      | ((with_reducible apply same_at); with_reducible assumption)
      | ((with_reducible apply Same.seq); with_reducible assumption)
      | ((with_reducible apply Kp.seqL); with_reducible assumption)
      | ((with_reducible apply fresh_ne); with_reducible assumption)
      | ((with_reducible apply Dw.same); with_reducible assumption)
      | ((with_reducible apply R.isEq); exact eq_true (by first | decide | omega))
      | ((with_reducible apply R.isLt); first | decide | omega)
      | ((with_reducible apply R.isLtI); first | decide | omega)
      | ((with_reducible apply R.isLeI); first | decide | omega)
      | ((with_reducible apply R.cdiv); exact rfl)
      | ((with_reducible apply R.cpow); exact rfl)
      | with_reducible apply R.cdivX
      | ((with_reducible apply R.isNe); omega)
      | ((with_reducible apply wayNF); first | exact rfl | exact ⟨rfl, rfl⟩ | exact ⟨rfl, rfl, rfl⟩ | exact ⟨rfl, rfl, rfl, rfl⟩)
      | with_reducible apply R.bm
      | ((with_reducible apply R.bmT); (focus ((first | with_reducible assumption | ((with_reducible apply same_at); with_reducible assumption) | ((with_reducible apply kp_at); with_reducible assumption)); done)))
      | with_reducible apply R.dput
      | with_reducible apply R.dget
      | with_reducible apply R.din
      | with_reducible apply R.dget2
      | with_reducible apply R.forE
      | with_reducible apply R.rng1
      | with_reducible apply R.rng2
      | with_reducible apply R.rg1
      | with_reducible apply R.rg2
      | with_reducible apply R.lcE
      | with_reducible apply R.itup
      | with_reducible apply R.ilst
      | with_reducible apply uLawNext
      | with_reducible apply uLawChange
      | with_reducible apply uDeterminant
      | with_reducible apply uNegative
      | with_reducible apply uLawMul
      | with_reducible apply uLawWorth
      | with_reducible apply uWorth
      | with_reducible apply uScaled
      | with_reducible apply uDiscriminant
      | with_reducible apply uLawAct
      | with_reducible apply uScaled
      | with_reducible apply uLawSquare
      | with_reducible apply uLawRoot
      | with_reducible apply uFloorRoot
      | with_reducible apply uIsReducedDefinite
      | with_reducible apply uStepDown
      | with_reducible apply uScaled
      | with_reducible apply uIsReducedIndefinite
      | with_reducible apply uStepOf
      | with_reducible apply uStepNear
      | with_reducible apply uDirected
      | with_reducible apply uCompleted
      | with_reducible apply uBezout
      | with_reducible apply uFloorRoot
      | with_reducible apply uDiscriminant
      | with_reducible apply uContent
      | with_reducible apply uFlatParts
      | with_reducible apply uCycle
      | with_reducible apply uKind
      | with_reducible apply uIsSquare
      | fail
      )
    refine ⟨tM, M1, M2, M3, M4, 58000, rfl, by simp_wf, f1.mono (by decide), f2.mono (by decide), f3.mono (by decide), f4.mono (by decide), by decide, .inl m1, ?_⟩
    rw [m1, Int.one_mul, Int.one_mul, Int.one_mul, Int.one_mul]
    repeat' (first
      | with_reducible apply R.var
      | with_reducible apply R.gsE
      | ((with_reducible apply R.gsN); (focus exact rfl))
      | with_reducible apply R.lenS
      | ((with_reducible apply R.lenB); exact rfl)
      | ((with_reducible apply R.isEq); exact rfl)
      | with_reducible apply R.op
      | with_reducible apply R.i2
      | with_reducible apply R.i0
      | with_reducible apply R.con
      | with_reducible apply R.cons
      | with_reducible apply R.nil
      | ((with_reducible apply R.gBd); first | with_reducible assumption | with_reducible apply Bd.mul | with_reducible apply Bd.add | with_reducible apply Bd.sub | ((with_reducible apply Bd.l8); exact eq_true (by decide)) | ((with_reducible apply Bd.lit); exact eq_true (by decide)) | with_reducible apply Bd.neg | with_reducible apply Bd.div | with_reducible apply Bd.abs | with_reducible apply Bd.mod | with_reducible apply Bd.fdiv | ((with_reducible apply Bd.om); omega))
      | with_reducible apply Bd.mulW
      | ((with_reducible apply R.gSqT); first | with_reducible assumption | ((with_reducible apply SqT.of); with_reducible assumption) | ((with_reducible apply same_seqT); with_reducible assumption) | ((with_reducible apply kp_seqT); with_reducible assumption) | with_reducible apply hU)
      | ((with_reducible apply R.isLe); first | decide | omega)
      | with_reducible apply R.gcons
      | with_reducible apply R.gname
      | ((with_reducible apply R.ixT); (focus ((repeat' (first | with_reducible assumption | with_reducible apply hU | ((with_reducible apply SqT.of); with_reducible assumption) | ((with_reducible apply same_seqT); with_reducible assumption) | ((with_reducible apply kp_seqT); with_reducible assumption) | ((with_reducible apply Dw.same); with_reducible assumption))); done)); exact rfl)
      | ((with_reducible apply R.ixL); (focus ((repeat' (first | with_reducible assumption | ((with_reducible apply SqL.of); with_reducible assumption) | ((with_reducible apply Same.seq); with_reducible assumption) | ((with_reducible apply Kp.seqL); with_reducible assumption) | ((with_reducible apply fresh_ne); with_reducible assumption) | ((with_reducible apply Dw.same); with_reducible assumption))); done)); exact rfl)
      | with_reducible apply R.test
      | with_reducible apply R.tb'
      | with_reducible apply R.isbl
      | with_reducible apply R.cmp
      | with_reducible apply R.t2i
      | with_reducible apply R.intp
      | with_reducible apply R.ifs
      | with_reducible apply R.asg
      | with_reducible apply R.seq
      | with_reducible apply R.gtup
      | with_reducible apply R.u1
      | with_reducible apply R.un
      | with_reducible apply R.ret
      | with_reducible apply R.next
      | with_reducible apply R.call
      | with_reducible apply iteT
      | with_reducible apply iteF
      | with_reducible assumption
      | with_reducible apply R.tup
      | with_reducible apply R.lst
      | with_reducible apply R.callB
      | with_reducible apply R.gnil
      | with_reducible apply R.brk
      | with_reducible apply R.cont
      | with_reducible apply R.drop
      | with_reducible apply R.par
      | with_reducible apply R.par2
      | with_reducible apply R.par3
      | with_reducible apply R.par4
      | with_reducible apply R.tif
      | with_reducible apply R.and
      | with_reducible apply R.or
      | with_reducible apply R.not
      | with_reducible apply R.andV
      | with_reducible apply R.orV
      | with_reducible apply R.notV
      | with_reducible apply R.chain
      | with_reducible apply R.tupL
      | with_reducible apply R.lstL
      | with_reducible apply R.cat
      | with_reducible apply R.absI
      | with_reducible apply R.intI
      | with_reducible apply R.intB
      | with_reducible apply R.eqS
      | with_reducible apply R.eqBl
      | with_reducible apply R.neBl
      | with_reducible apply R.sl
      | with_reducible apply R.noPart
      | with_reducible apply R.part
      | with_reducible apply R.isInt
      | with_reducible apply R.slL
      | with_reducible apply R.isiT
      | with_reducible apply R.isiLst
      | with_reducible apply R.nwT
      | with_reducible apply R.nwL
      | ((with_reducible apply R.mt); intro HN tn sn nn ht)
      | ((with_reducible apply R.ml); intro HN tn sn nn ht)
      | ((with_reducible apply R.isiTupS); focus ((repeat' (first | with_reducible assumption | with_reducible apply hU | ((with_reducible apply SqT.of); with_reducible assumption) | ((with_reducible apply same_seqT); with_reducible assumption) | ((with_reducible apply kp_seqT); with_reducible assumption) | ((with_reducible apply Dw.same); with_reducible assumption))); done))
      | ((with_reducible apply R.ne4); focus ((repeat' (first | with_reducible assumption | with_reducible apply hU | ((with_reducible apply SqT.of); with_reducible assumption) | ((with_reducible apply same_seqT); with_reducible assumption) | ((with_reducible apply kp_seqT); with_reducible assumption) | ((with_reducible apply Dw.same); with_reducible assumption))); done))
      | ((with_reducible apply R.ne3); focus ((repeat' (first | with_reducible assumption | with_reducible apply hU | ((with_reducible apply SqT.of); with_reducible assumption) | ((with_reducible apply same_seqT); with_reducible assumption) | ((with_reducible apply kp_seqT); with_reducible assumption) | ((with_reducible apply Dw.same); with_reducible assumption))); done))
      | ((with_reducible apply R.ne2); focus ((repeat' (first | with_reducible assumption | with_reducible apply hU | ((with_reducible apply SqT.of); with_reducible assumption) | ((with_reducible apply same_seqT); with_reducible assumption) | ((with_reducible apply kp_seqT); with_reducible assumption) | ((with_reducible apply Dw.same); with_reducible assumption))); done))
      | ((with_reducible apply R.eq4); focus ((repeat' (first | with_reducible assumption | with_reducible apply hU | ((with_reducible apply SqT.of); with_reducible assumption) | ((with_reducible apply same_seqT); with_reducible assumption) | ((with_reducible apply kp_seqT); with_reducible assumption) | ((with_reducible apply Dw.same); with_reducible assumption))); done))
      | ((with_reducible apply R.eq3); focus ((repeat' (first | with_reducible assumption | with_reducible apply hU | ((with_reducible apply SqT.of); with_reducible assumption) | ((with_reducible apply same_seqT); with_reducible assumption) | ((with_reducible apply kp_seqT); with_reducible assumption) | ((with_reducible apply Dw.same); with_reducible assumption))); done))
      | ((with_reducible apply R.eq2); focus ((repeat' (first | with_reducible assumption | with_reducible apply hU | ((with_reducible apply SqT.of); with_reducible assumption) | ((with_reducible apply same_seqT); with_reducible assumption) | ((with_reducible apply kp_seqT); with_reducible assumption) | ((with_reducible apply Dw.same); with_reducible assumption))); done))
      | ((with_reducible apply R.nw); intro HN tn sn ht)
      | with_reducible apply R.notT
      | with_reducible apply R.notF
      | ((with_reducible apply SqL.of); with_reducible assumption)
      | ((with_reducible apply sameB); with_reducible assumption)
      | ((with_reducible apply same_at); with_reducible assumption)
      | ((with_reducible apply Same.seq); with_reducible assumption)
      | ((with_reducible apply Kp.seqL); with_reducible assumption)
      | ((with_reducible apply fresh_ne); with_reducible assumption)
      | ((with_reducible apply Dw.same); with_reducible assumption)
      | ((with_reducible apply R.isEq); exact eq_true (by first | decide | omega))
      | ((with_reducible apply R.isLt); first | decide | omega)
      | ((with_reducible apply R.isLtI); first | decide | omega)
      | ((with_reducible apply R.isLeI); first | decide | omega)
      | ((with_reducible apply R.cdiv); exact rfl)
      | ((with_reducible apply R.cpow); exact rfl)
      | with_reducible apply R.cdivX
      | ((with_reducible apply R.isNe); omega)
      | ((with_reducible apply wayNF); first | exact rfl | exact ⟨rfl, rfl⟩ | exact ⟨rfl, rfl, rfl⟩ | exact ⟨rfl, rfl, rfl, rfl⟩)
      | with_reducible apply R.bm
      | ((with_reducible apply R.bmT); (focus ((first | with_reducible assumption | ((with_reducible apply same_at); with_reducible assumption) | ((with_reducible apply kp_at); with_reducible assumption)); done)))
      | with_reducible apply R.dput
      | with_reducible apply R.dget
      | with_reducible apply R.din
      | with_reducible apply R.dget2
      | with_reducible apply R.forE
      | with_reducible apply R.rng1
      | with_reducible apply R.rng2
      | with_reducible apply R.rg1
      | with_reducible apply R.rg2
      | with_reducible apply R.lcE
      | with_reducible apply R.itup
      | with_reducible apply R.ilst
      | with_reducible apply uLawNext
      | with_reducible apply uLawChange
      | with_reducible apply uDeterminant
      | with_reducible apply uNegative
      | with_reducible apply uLawMul
      | with_reducible apply uLawWorth
      | with_reducible apply uWorth
      | with_reducible apply uScaled
      | with_reducible apply uDiscriminant
      | with_reducible apply uLawAct
      | with_reducible apply uScaled
      | with_reducible apply uLawSquare
      | with_reducible apply uLawRoot
      | with_reducible apply uFloorRoot
      | with_reducible apply uIsReducedDefinite
      | with_reducible apply uStepDown
      | with_reducible apply uScaled
      | with_reducible apply uIsReducedIndefinite
      | with_reducible apply uStepOf
      | with_reducible apply uStepNear
      | with_reducible apply uDirected
      | with_reducible apply uCompleted
      | with_reducible apply uBezout
      | with_reducible apply uFloorRoot
      | with_reducible apply uDiscriminant
      | with_reducible apply uContent
      | with_reducible apply uFlatParts
      | with_reducible apply uCycle
      | with_reducible apply uKind
      | with_reducible apply uIsSquare
      | fail
      )
    refine ⟨tN, N1, N2, N3, N4, 58000, rfl, by simp_wf, h1.mono (by decide), h2.mono (by decide), h3.mono (by decide), h4.mono (by decide), by decide, .inl m2, ?_⟩
    rw [m2, Int.one_mul, Int.one_mul, Int.one_mul, Int.one_mul]
    repeat' (first
      | with_reducible apply R.var
      | with_reducible apply R.gsE
      | ((with_reducible apply R.gsN); (focus exact rfl))
      | with_reducible apply R.lenS
      | ((with_reducible apply R.lenB); exact rfl)
      | ((with_reducible apply R.isEq); exact rfl)
      | with_reducible apply R.op
      | with_reducible apply R.i2
      | with_reducible apply R.i0
      | with_reducible apply R.con
      | with_reducible apply R.cons
      | with_reducible apply R.nil
      | ((with_reducible apply R.gBd); first | with_reducible assumption | with_reducible apply Bd.mul | with_reducible apply Bd.add | with_reducible apply Bd.sub | ((with_reducible apply Bd.l8); exact eq_true (by decide)) | ((with_reducible apply Bd.lit); exact eq_true (by decide)) | with_reducible apply Bd.neg | with_reducible apply Bd.div | with_reducible apply Bd.abs | with_reducible apply Bd.mod | with_reducible apply Bd.fdiv | ((with_reducible apply Bd.om); omega))
      | with_reducible apply Bd.mulW
      | ((with_reducible apply R.gSqT); first | with_reducible assumption | ((with_reducible apply SqT.of); with_reducible assumption) | ((with_reducible apply same_seqT); with_reducible assumption) | ((with_reducible apply kp_seqT); with_reducible assumption) | with_reducible apply hU)
      | ((with_reducible apply R.isLe); first | decide | omega)
      | with_reducible apply R.gcons
      | with_reducible apply R.gname
      | ((with_reducible apply R.ixT); (focus ((repeat' (first | with_reducible assumption | with_reducible apply hU | ((with_reducible apply SqT.of); with_reducible assumption) | ((with_reducible apply same_seqT); with_reducible assumption) | ((with_reducible apply kp_seqT); with_reducible assumption) | ((with_reducible apply Dw.same); with_reducible assumption))); done)); exact rfl)
      | ((with_reducible apply R.ixL); (focus ((repeat' (first | with_reducible assumption | ((with_reducible apply SqL.of); with_reducible assumption) | ((with_reducible apply Same.seq); with_reducible assumption) | ((with_reducible apply Kp.seqL); with_reducible assumption) | ((with_reducible apply fresh_ne); with_reducible assumption) | ((with_reducible apply Dw.same); with_reducible assumption))); done)); exact rfl)
      | with_reducible apply R.test
      | with_reducible apply R.tb'
      | with_reducible apply R.isbl
      | with_reducible apply R.cmp
      | with_reducible apply R.t2i
      | with_reducible apply R.intp
      | with_reducible apply R.ifs
      | with_reducible apply R.asg
      | with_reducible apply R.seq
      | with_reducible apply R.gtup
      | with_reducible apply R.u1
      | with_reducible apply R.un
      | with_reducible apply R.ret
      | with_reducible apply R.next
      | with_reducible apply R.call
      | with_reducible apply iteT
      | with_reducible apply iteF
      | with_reducible assumption
      | with_reducible apply R.tup
      | with_reducible apply R.lst
      | with_reducible apply R.callB
      | with_reducible apply R.gnil
      | with_reducible apply R.brk
      | with_reducible apply R.cont
      | with_reducible apply R.drop
      | with_reducible apply R.par
      | with_reducible apply R.par2
      | with_reducible apply R.par3
      | with_reducible apply R.par4
      | with_reducible apply R.tif
      | with_reducible apply R.and
      | with_reducible apply R.or
      | with_reducible apply R.not
      | with_reducible apply R.andV
      | with_reducible apply R.orV
      | with_reducible apply R.notV
      | with_reducible apply R.chain
      | with_reducible apply R.tupL
      | with_reducible apply R.lstL
      | with_reducible apply R.cat
      | with_reducible apply R.absI
      | with_reducible apply R.intI
      | with_reducible apply R.intB
      | with_reducible apply R.eqS
      | with_reducible apply R.eqBl
      | with_reducible apply R.neBl
      | with_reducible apply R.sl
      | with_reducible apply R.noPart
      | with_reducible apply R.part
      | with_reducible apply R.isInt
      | with_reducible apply R.slL
      | with_reducible apply R.isiT
      | with_reducible apply R.isiLst
      | with_reducible apply R.nwT
      | with_reducible apply R.nwL
      | ((with_reducible apply R.mt); intro HN tn sn nn ht)
      | ((with_reducible apply R.ml); intro HN tn sn nn ht)
      | ((with_reducible apply R.isiTupS); focus ((repeat' (first | with_reducible assumption | with_reducible apply hU | ((with_reducible apply SqT.of); with_reducible assumption) | ((with_reducible apply same_seqT); with_reducible assumption) | ((with_reducible apply kp_seqT); with_reducible assumption) | ((with_reducible apply Dw.same); with_reducible assumption))); done))
      | ((with_reducible apply R.ne4); focus ((repeat' (first | with_reducible assumption | with_reducible apply hU | ((with_reducible apply SqT.of); with_reducible assumption) | ((with_reducible apply same_seqT); with_reducible assumption) | ((with_reducible apply kp_seqT); with_reducible assumption) | ((with_reducible apply Dw.same); with_reducible assumption))); done))
      | ((with_reducible apply R.ne3); focus ((repeat' (first | with_reducible assumption | with_reducible apply hU | ((with_reducible apply SqT.of); with_reducible assumption) | ((with_reducible apply same_seqT); with_reducible assumption) | ((with_reducible apply kp_seqT); with_reducible assumption) | ((with_reducible apply Dw.same); with_reducible assumption))); done))
      | ((with_reducible apply R.ne2); focus ((repeat' (first | with_reducible assumption | with_reducible apply hU | ((with_reducible apply SqT.of); with_reducible assumption) | ((with_reducible apply same_seqT); with_reducible assumption) | ((with_reducible apply kp_seqT); with_reducible assumption) | ((with_reducible apply Dw.same); with_reducible assumption))); done))
      | ((with_reducible apply R.eq4); focus ((repeat' (first | with_reducible assumption | with_reducible apply hU | ((with_reducible apply SqT.of); with_reducible assumption) | ((with_reducible apply same_seqT); with_reducible assumption) | ((with_reducible apply kp_seqT); with_reducible assumption) | ((with_reducible apply Dw.same); with_reducible assumption))); done))
      | ((with_reducible apply R.eq3); focus ((repeat' (first | with_reducible assumption | with_reducible apply hU | ((with_reducible apply SqT.of); with_reducible assumption) | ((with_reducible apply same_seqT); with_reducible assumption) | ((with_reducible apply kp_seqT); with_reducible assumption) | ((with_reducible apply Dw.same); with_reducible assumption))); done))
      | ((with_reducible apply R.eq2); focus ((repeat' (first | with_reducible assumption | with_reducible apply hU | ((with_reducible apply SqT.of); with_reducible assumption) | ((with_reducible apply same_seqT); with_reducible assumption) | ((with_reducible apply kp_seqT); with_reducible assumption) | ((with_reducible apply Dw.same); with_reducible assumption))); done))
      | ((with_reducible apply R.nw); intro HN tn sn ht)
      | with_reducible apply R.notT
      | with_reducible apply R.notF
      | ((with_reducible apply SqL.of); with_reducible assumption)
      | ((with_reducible apply sameB); with_reducible assumption)
      | ((with_reducible apply same_at); with_reducible assumption)
      | ((with_reducible apply Same.seq); with_reducible assumption)
      | ((with_reducible apply Kp.seqL); with_reducible assumption)
      | ((with_reducible apply fresh_ne); with_reducible assumption)
      | ((with_reducible apply Dw.same); with_reducible assumption)
      | ((with_reducible apply R.isEq); exact eq_true (by first | decide | omega))
      | ((with_reducible apply R.isLt); first | decide | omega)
      | ((with_reducible apply R.isLtI); first | decide | omega)
      | ((with_reducible apply R.isLeI); first | decide | omega)
      | ((with_reducible apply R.cdiv); exact rfl)
      | ((with_reducible apply R.cpow); exact rfl)
      | with_reducible apply R.cdivX
      | ((with_reducible apply R.isNe); omega)
      | ((with_reducible apply wayNF); first | exact rfl | exact ⟨rfl, rfl⟩ | exact ⟨rfl, rfl, rfl⟩ | exact ⟨rfl, rfl, rfl, rfl⟩)
      | with_reducible apply R.bm
      | ((with_reducible apply R.bmT); (focus ((first | with_reducible assumption | ((with_reducible apply same_at); with_reducible assumption) | ((with_reducible apply kp_at); with_reducible assumption)); done)))
      | with_reducible apply R.dput
      | with_reducible apply R.dget
      | with_reducible apply R.din
      | with_reducible apply R.dget2
      | with_reducible apply R.forE
      | with_reducible apply R.rng1
      | with_reducible apply R.rng2
      | with_reducible apply R.rg1
      | with_reducible apply R.rg2
      | with_reducible apply R.lcE
      | with_reducible apply R.itup
      | with_reducible apply R.ilst
      | with_reducible apply uLawNext
      | with_reducible apply uLawChange
      | with_reducible apply uDeterminant
      | with_reducible apply uNegative
      | with_reducible apply uLawMul
      | with_reducible apply uLawWorth
      | with_reducible apply uWorth
      | with_reducible apply uScaled
      | with_reducible apply uDiscriminant
      | with_reducible apply uLawAct
      | with_reducible apply uScaled
      | with_reducible apply uLawSquare
      | with_reducible apply uLawRoot
      | with_reducible apply uFloorRoot
      | with_reducible apply uIsReducedDefinite
      | with_reducible apply uStepDown
      | with_reducible apply uScaled
      | with_reducible apply uIsReducedIndefinite
      | with_reducible apply uStepOf
      | with_reducible apply uStepNear
      | with_reducible apply uDirected
      | with_reducible apply uCompleted
      | with_reducible apply uBezout
      | with_reducible apply uFloorRoot
      | with_reducible apply uDiscriminant
      | with_reducible apply uContent
      | with_reducible apply uFlatParts
      | with_reducible apply uCycle
      | with_reducible apply uKind
      | with_reducible apply uIsSquare
      | fail
      )
    rename_i Hr tr9 sr hr0 Hi ti9 si hi
    have s10 := (sr.trans si).trans sn
    have sR := same_seqT (si.trans sn) (SqT.of (K := K) hr0)
    have sI := same_seqT sn (SqT.of (K := K) hi)
    have sJ := SqT.of (K := K) ht
    have sU := same_seqT s10 sU
    have sF := same_seqT (s12.trans s10) sF
    have sB := same_seqT (s12.trans s10) sB
    have s13 := (s11.trans s12).trans s10
    clear ht hi hr0 nn si sr sn s10 s11 s12 sMt sNt f1 f2 f3 f4 h1 h2 h3 h4
    generalize tn = tJ9 at *
    generalize HN = H13 at *
    refine ⟨tr9, ti9, tJ9, (0, x, A2, Mid), (M4, -M2, -M3, M1), (N4, -N2, -N3, N1), rfl, sR, sI, sJ, t62, bI, bJ, ?_⟩
    intro H14 tL s14 sL
    have sU := same_seqT s14 sU
    have sF := same_seqT s14 sF
    have sB := same_seqT s14 sB
    repeat' (first
      | with_reducible apply R.var
      | with_reducible apply R.gsE
      | ((with_reducible apply R.gsN); (focus exact rfl))
      | with_reducible apply R.lenS
      | ((with_reducible apply R.lenB); exact rfl)
      | ((with_reducible apply R.isEq); exact rfl)
      | with_reducible apply R.op
      | with_reducible apply R.i2
      | with_reducible apply R.i0
      | with_reducible apply R.con
      | with_reducible apply R.cons
      | with_reducible apply R.nil
      | ((with_reducible apply R.gBd); first | with_reducible assumption | with_reducible apply Bd.mul | with_reducible apply Bd.add | with_reducible apply Bd.sub | ((with_reducible apply Bd.l8); exact eq_true (by decide)) | ((with_reducible apply Bd.lit); exact eq_true (by decide)) | with_reducible apply Bd.neg | with_reducible apply Bd.div | with_reducible apply Bd.abs | with_reducible apply Bd.mod | with_reducible apply Bd.fdiv | ((with_reducible apply Bd.om); omega))
      | with_reducible apply Bd.mulW
      | ((with_reducible apply R.gSqT); first | with_reducible assumption | ((with_reducible apply SqT.of); with_reducible assumption) | ((with_reducible apply same_seqT); with_reducible assumption) | ((with_reducible apply kp_seqT); with_reducible assumption) | with_reducible apply hU)
      | ((with_reducible apply R.isLe); first | decide | omega)
      | with_reducible apply R.gcons
      | with_reducible apply R.gname
      | ((with_reducible apply R.ixT); (focus ((repeat' (first | with_reducible assumption | with_reducible apply hU | ((with_reducible apply SqT.of); with_reducible assumption) | ((with_reducible apply same_seqT); with_reducible assumption) | ((with_reducible apply kp_seqT); with_reducible assumption) | ((with_reducible apply Dw.same); with_reducible assumption))); done)); exact rfl)
      | ((with_reducible apply R.ixL); (focus ((repeat' (first | with_reducible assumption | ((with_reducible apply SqL.of); with_reducible assumption) | ((with_reducible apply Same.seq); with_reducible assumption) | ((with_reducible apply Kp.seqL); with_reducible assumption) | ((with_reducible apply fresh_ne); with_reducible assumption) | ((with_reducible apply Dw.same); with_reducible assumption))); done)); exact rfl)
      | with_reducible apply R.test
      | with_reducible apply R.tb'
      | with_reducible apply R.isbl
      | with_reducible apply R.cmp
      | with_reducible apply R.t2i
      | with_reducible apply R.intp
      | with_reducible apply R.ifs
      | with_reducible apply R.asg
      | with_reducible apply R.seq
      | with_reducible apply R.gtup
      | with_reducible apply R.u1
      | with_reducible apply R.un
      | with_reducible apply R.ret
      | with_reducible apply R.next
      | with_reducible apply R.call
      | with_reducible apply iteT
      | with_reducible apply iteF
      | with_reducible assumption
      | with_reducible apply R.tup
      | with_reducible apply R.lst
      | with_reducible apply R.callB
      | with_reducible apply R.gnil
      | with_reducible apply R.brk
      | with_reducible apply R.cont
      | with_reducible apply R.drop
      | with_reducible apply R.par
      | with_reducible apply R.par2
      | with_reducible apply R.par3
      | with_reducible apply R.par4
      | with_reducible apply R.tif
      | with_reducible apply R.and
      | with_reducible apply R.or
      | with_reducible apply R.not
      | with_reducible apply R.andV
      | with_reducible apply R.orV
      | with_reducible apply R.notV
      | with_reducible apply R.chain
      | with_reducible apply R.tupL
      | with_reducible apply R.lstL
      | with_reducible apply R.cat
      | with_reducible apply R.absI
      | with_reducible apply R.intI
      | with_reducible apply R.intB
      | with_reducible apply R.eqS
      | with_reducible apply R.eqBl
      | with_reducible apply R.neBl
      | with_reducible apply R.sl
      | with_reducible apply R.noPart
      | with_reducible apply R.part
      | with_reducible apply R.isInt
      | with_reducible apply R.slL
      | with_reducible apply R.isiT
      | with_reducible apply R.isiLst
      | with_reducible apply R.nwT
      | with_reducible apply R.nwL
      | ((with_reducible apply R.mt); intro HN tn sn nn ht)
      | ((with_reducible apply R.ml); intro HN tn sn nn ht)
      | ((with_reducible apply R.isiTupS); focus ((repeat' (first | with_reducible assumption | with_reducible apply hU | ((with_reducible apply SqT.of); with_reducible assumption) | ((with_reducible apply same_seqT); with_reducible assumption) | ((with_reducible apply kp_seqT); with_reducible assumption) | ((with_reducible apply Dw.same); with_reducible assumption))); done))
      | ((with_reducible apply R.ne4); focus ((repeat' (first | with_reducible assumption | with_reducible apply hU | ((with_reducible apply SqT.of); with_reducible assumption) | ((with_reducible apply same_seqT); with_reducible assumption) | ((with_reducible apply kp_seqT); with_reducible assumption) | ((with_reducible apply Dw.same); with_reducible assumption))); done))
      | ((with_reducible apply R.ne3); focus ((repeat' (first | with_reducible assumption | with_reducible apply hU | ((with_reducible apply SqT.of); with_reducible assumption) | ((with_reducible apply same_seqT); with_reducible assumption) | ((with_reducible apply kp_seqT); with_reducible assumption) | ((with_reducible apply Dw.same); with_reducible assumption))); done))
      | ((with_reducible apply R.ne2); focus ((repeat' (first | with_reducible assumption | with_reducible apply hU | ((with_reducible apply SqT.of); with_reducible assumption) | ((with_reducible apply same_seqT); with_reducible assumption) | ((with_reducible apply kp_seqT); with_reducible assumption) | ((with_reducible apply Dw.same); with_reducible assumption))); done))
      | ((with_reducible apply R.eq4); focus ((repeat' (first | with_reducible assumption | with_reducible apply hU | ((with_reducible apply SqT.of); with_reducible assumption) | ((with_reducible apply same_seqT); with_reducible assumption) | ((with_reducible apply kp_seqT); with_reducible assumption) | ((with_reducible apply Dw.same); with_reducible assumption))); done))
      | ((with_reducible apply R.eq3); focus ((repeat' (first | with_reducible assumption | with_reducible apply hU | ((with_reducible apply SqT.of); with_reducible assumption) | ((with_reducible apply same_seqT); with_reducible assumption) | ((with_reducible apply kp_seqT); with_reducible assumption) | ((with_reducible apply Dw.same); with_reducible assumption))); done))
      | ((with_reducible apply R.eq2); focus ((repeat' (first | with_reducible assumption | with_reducible apply hU | ((with_reducible apply SqT.of); with_reducible assumption) | ((with_reducible apply same_seqT); with_reducible assumption) | ((with_reducible apply kp_seqT); with_reducible assumption) | ((with_reducible apply Dw.same); with_reducible assumption))); done))
      | ((with_reducible apply R.nw); intro HN tn sn ht)
      | with_reducible apply R.notT
      | with_reducible apply R.notF
      | ((with_reducible apply SqL.of); with_reducible assumption)
      | ((with_reducible apply sameB); with_reducible assumption)
      | ((with_reducible apply same_at); with_reducible assumption)
      | ((with_reducible apply Same.seq); with_reducible assumption)
      | ((with_reducible apply Kp.seqL); with_reducible assumption)
      | ((with_reducible apply fresh_ne); with_reducible assumption)
      | ((with_reducible apply Dw.same); with_reducible assumption)
      | ((with_reducible apply R.isEq); exact eq_true (by first | decide | omega))
      | ((with_reducible apply R.isLt); first | decide | omega)
      | ((with_reducible apply R.isLtI); first | decide | omega)
      | ((with_reducible apply R.isLeI); first | decide | omega)
      | ((with_reducible apply R.cdiv); exact rfl)
      | ((with_reducible apply R.cpow); exact rfl)
      | with_reducible apply R.cdivX
      | ((with_reducible apply R.isNe); omega)
      | ((with_reducible apply wayNF); first | exact rfl | exact ⟨rfl, rfl⟩ | exact ⟨rfl, rfl, rfl⟩ | exact ⟨rfl, rfl, rfl, rfl⟩)
      | with_reducible apply R.bm
      | ((with_reducible apply R.bmT); (focus ((first | with_reducible assumption | ((with_reducible apply same_at); with_reducible assumption) | ((with_reducible apply kp_at); with_reducible assumption)); done)))
      | with_reducible apply R.dput
      | with_reducible apply R.dget
      | with_reducible apply R.din
      | with_reducible apply R.dget2
      | with_reducible apply R.forE
      | with_reducible apply R.rng1
      | with_reducible apply R.rng2
      | with_reducible apply R.rg1
      | with_reducible apply R.rg2
      | with_reducible apply R.lcE
      | with_reducible apply R.itup
      | with_reducible apply R.ilst
      | with_reducible apply uLawNext
      | with_reducible apply uLawChange
      | with_reducible apply uDeterminant
      | with_reducible apply uNegative
      | with_reducible apply uLawMul
      | with_reducible apply uLawWorth
      | with_reducible apply uWorth
      | with_reducible apply uScaled
      | with_reducible apply uDiscriminant
      | with_reducible apply uLawAct
      | with_reducible apply uScaled
      | with_reducible apply uLawSquare
      | with_reducible apply uLawRoot
      | with_reducible apply uFloorRoot
      | with_reducible apply uIsReducedDefinite
      | with_reducible apply uStepDown
      | with_reducible apply uScaled
      | with_reducible apply uIsReducedIndefinite
      | with_reducible apply uStepOf
      | with_reducible apply uStepNear
      | with_reducible apply uDirected
      | with_reducible apply uCompleted
      | with_reducible apply uBezout
      | with_reducible apply uFloorRoot
      | with_reducible apply uDiscriminant
      | with_reducible apply uContent
      | with_reducible apply uFlatParts
      | with_reducible apply uCycle
      | with_reducible apply uKind
      | with_reducible apply uIsSquare
      | fail
      )
    have s15 := s13.trans s14
    have kd : k1 * k4 - k2 * k3 = 1 := C9.det
    have ka : (X3, Y3, Z3) = actF (x * A2, Mid, L) k1 k2 k3 k4 := C9.act
    have kcn := cn_in v D0 C9.cn
    obtain ⟨bk1, bk2, bk3, bk4⟩ := C9.bd
    dsimp only at bk1 bk2 bk3 bk4
    have bU := (bd_ch2 bJ (bd_ch1 bI r62)).mono (show _ ≤ 93700 by decide)
    have bL' := (bd_ch2 bJ (bd_ch1 bI t62)).mono (show _ ≤ 93700 by decide)
    -- the rows
    have cU : Cmp (a, b, c) (a2, b2, c2) (x * A2, Mid, L) (ch2 (N4, -N2, -N3, N1) (ch1 (M4, -M2, -M3, M1) (1, 0, 0, -L))) (ch2 (N4, -N2, -N3, N1) (ch1 (M4, -M2, -M3, M1) (0, x, A2, Mid))) := by
      have c1 := cmp_ch2 (cmp_ch1 E0 (m := (M4, -M2, -M3, M1)) (det_inv m1)) (n := (N4, -N2, -N3, N1)) (det_inv m2)
      have z1 : actM (x, Mid, A2 * L) (M4, -M2, -M3, M1) = (a, b, c) := by
        rw [← q2', ← e1']
        exact actF_inv _ m1
      have z2 : actM (A2, Mid, x * L) (N4, -N2, -N3, N1) = (a2, b2, c2) := by
        rw [← q3, ← e2']
        exact actF_inv _ m2
      rw [z1, z2] at c1
      exact c1
    have cF := cmp_ch3 cU (s := k4) (t := -k2) (u := -k3) (v := k1) (by rw [← kd]; grind)
    rw [Int.neg_neg, Int.neg_neg, ← ka] at cF
    clear E0 cU r62 t62 bI bJ D0 D1 G1 G2 e1' e2' q1 q2' q3 C9 ka s13 s14 m1 m2 y0 y1
    generalize ch2 (N4, -N2, -N3, N1) (ch1 (M4, -M2, -M3, M1) (1, 0, 0, -L)) = u9 at *
    generalize ch2 (N4, -N2, -N3, N1) (ch1 (M4, -M2, -M3, M1) (0, x, A2, Mid)) = l9 at *
    refine ⟨tB, k1, k2, k3, k4, 58000, rfl, sB, bk1.mono (by decide), bk2.mono (by decide), bk3.mono (by decide), bk4.mono (by decide), by decide, .inl kd, ?_⟩
    rw [kd, Int.one_mul, Int.one_mul, Int.one_mul, Int.one_mul]
    repeat' (first
      | with_reducible apply R.var
      | with_reducible apply R.gsE
      | ((with_reducible apply R.gsN); (focus exact rfl))
      | with_reducible apply R.lenS
      | ((with_reducible apply R.lenB); exact rfl)
      | ((with_reducible apply R.isEq); exact rfl)
      | with_reducible apply R.op
      | with_reducible apply R.i2
      | with_reducible apply R.i0
      | with_reducible apply R.con
      | with_reducible apply R.cons
      | with_reducible apply R.nil
      | ((with_reducible apply R.gBd); first | with_reducible assumption | with_reducible apply Bd.mul | with_reducible apply Bd.add | with_reducible apply Bd.sub | ((with_reducible apply Bd.l8); exact eq_true (by decide)) | ((with_reducible apply Bd.lit); exact eq_true (by decide)) | with_reducible apply Bd.neg | with_reducible apply Bd.div | with_reducible apply Bd.abs | with_reducible apply Bd.mod | with_reducible apply Bd.fdiv | ((with_reducible apply Bd.om); omega))
      | with_reducible apply Bd.mulW
      | ((with_reducible apply R.gSqT); first | with_reducible assumption | ((with_reducible apply SqT.of); with_reducible assumption) | ((with_reducible apply same_seqT); with_reducible assumption) | ((with_reducible apply kp_seqT); with_reducible assumption) | with_reducible apply hU)
      | ((with_reducible apply R.isLe); first | decide | omega)
      | with_reducible apply R.gcons
      | with_reducible apply R.gname
      | ((with_reducible apply R.ixT); (focus ((repeat' (first | with_reducible assumption | with_reducible apply hU | ((with_reducible apply SqT.of); with_reducible assumption) | ((with_reducible apply same_seqT); with_reducible assumption) | ((with_reducible apply kp_seqT); with_reducible assumption) | ((with_reducible apply Dw.same); with_reducible assumption))); done)); exact rfl)
      | ((with_reducible apply R.ixL); (focus ((repeat' (first | with_reducible assumption | ((with_reducible apply SqL.of); with_reducible assumption) | ((with_reducible apply Same.seq); with_reducible assumption) | ((with_reducible apply Kp.seqL); with_reducible assumption) | ((with_reducible apply fresh_ne); with_reducible assumption) | ((with_reducible apply Dw.same); with_reducible assumption))); done)); exact rfl)
      | with_reducible apply R.test
      | with_reducible apply R.tb'
      | with_reducible apply R.isbl
      | with_reducible apply R.cmp
      | with_reducible apply R.t2i
      | with_reducible apply R.intp
      | with_reducible apply R.ifs
      | with_reducible apply R.asg
      | with_reducible apply R.seq
      | with_reducible apply R.gtup
      | with_reducible apply R.u1
      | with_reducible apply R.un
      | with_reducible apply R.ret
      | with_reducible apply R.next
      | with_reducible apply R.call
      | with_reducible apply iteT
      | with_reducible apply iteF
      | with_reducible assumption
      | with_reducible apply R.tup
      | with_reducible apply R.lst
      | with_reducible apply R.callB
      | with_reducible apply R.gnil
      | with_reducible apply R.brk
      | with_reducible apply R.cont
      | with_reducible apply R.drop
      | with_reducible apply R.par
      | with_reducible apply R.par2
      | with_reducible apply R.par3
      | with_reducible apply R.par4
      | with_reducible apply R.tif
      | with_reducible apply R.and
      | with_reducible apply R.or
      | with_reducible apply R.not
      | with_reducible apply R.andV
      | with_reducible apply R.orV
      | with_reducible apply R.notV
      | with_reducible apply R.chain
      | with_reducible apply R.tupL
      | with_reducible apply R.lstL
      | with_reducible apply R.cat
      | with_reducible apply R.absI
      | with_reducible apply R.intI
      | with_reducible apply R.intB
      | with_reducible apply R.eqS
      | with_reducible apply R.eqBl
      | with_reducible apply R.neBl
      | with_reducible apply R.sl
      | with_reducible apply R.noPart
      | with_reducible apply R.part
      | with_reducible apply R.isInt
      | with_reducible apply R.slL
      | with_reducible apply R.isiT
      | with_reducible apply R.isiLst
      | with_reducible apply R.nwT
      | with_reducible apply R.nwL
      | ((with_reducible apply R.mt); intro HN tn sn nn ht)
      | ((with_reducible apply R.ml); intro HN tn sn nn ht)
      | ((with_reducible apply R.isiTupS); focus ((repeat' (first | with_reducible assumption | with_reducible apply hU | ((with_reducible apply SqT.of); with_reducible assumption) | ((with_reducible apply same_seqT); with_reducible assumption) | ((with_reducible apply kp_seqT); with_reducible assumption) | ((with_reducible apply Dw.same); with_reducible assumption))); done))
      | ((with_reducible apply R.ne4); focus ((repeat' (first | with_reducible assumption | with_reducible apply hU | ((with_reducible apply SqT.of); with_reducible assumption) | ((with_reducible apply same_seqT); with_reducible assumption) | ((with_reducible apply kp_seqT); with_reducible assumption) | ((with_reducible apply Dw.same); with_reducible assumption))); done))
      | ((with_reducible apply R.ne3); focus ((repeat' (first | with_reducible assumption | with_reducible apply hU | ((with_reducible apply SqT.of); with_reducible assumption) | ((with_reducible apply same_seqT); with_reducible assumption) | ((with_reducible apply kp_seqT); with_reducible assumption) | ((with_reducible apply Dw.same); with_reducible assumption))); done))
      | ((with_reducible apply R.ne2); focus ((repeat' (first | with_reducible assumption | with_reducible apply hU | ((with_reducible apply SqT.of); with_reducible assumption) | ((with_reducible apply same_seqT); with_reducible assumption) | ((with_reducible apply kp_seqT); with_reducible assumption) | ((with_reducible apply Dw.same); with_reducible assumption))); done))
      | ((with_reducible apply R.eq4); focus ((repeat' (first | with_reducible assumption | with_reducible apply hU | ((with_reducible apply SqT.of); with_reducible assumption) | ((with_reducible apply same_seqT); with_reducible assumption) | ((with_reducible apply kp_seqT); with_reducible assumption) | ((with_reducible apply Dw.same); with_reducible assumption))); done))
      | ((with_reducible apply R.eq3); focus ((repeat' (first | with_reducible assumption | with_reducible apply hU | ((with_reducible apply SqT.of); with_reducible assumption) | ((with_reducible apply same_seqT); with_reducible assumption) | ((with_reducible apply kp_seqT); with_reducible assumption) | ((with_reducible apply Dw.same); with_reducible assumption))); done))
      | ((with_reducible apply R.eq2); focus ((repeat' (first | with_reducible assumption | with_reducible apply hU | ((with_reducible apply SqT.of); with_reducible assumption) | ((with_reducible apply same_seqT); with_reducible assumption) | ((with_reducible apply kp_seqT); with_reducible assumption) | ((with_reducible apply Dw.same); with_reducible assumption))); done))
      | ((with_reducible apply R.nw); intro HN tn sn ht)
      | with_reducible apply R.notT
      | with_reducible apply R.notF
      | ((with_reducible apply SqL.of); with_reducible assumption)
      | ((with_reducible apply sameB); with_reducible assumption)
      | ((with_reducible apply same_at); with_reducible assumption)
      | ((with_reducible apply Same.seq); with_reducible assumption)
      | ((with_reducible apply Kp.seqL); with_reducible assumption)
      | ((with_reducible apply fresh_ne); with_reducible assumption)
      | ((with_reducible apply Dw.same); with_reducible assumption)
      | ((with_reducible apply R.isEq); exact eq_true (by first | decide | omega))
      | ((with_reducible apply R.isLt); first | decide | omega)
      | ((with_reducible apply R.isLtI); first | decide | omega)
      | ((with_reducible apply R.isLeI); first | decide | omega)
      | ((with_reducible apply R.cdiv); exact rfl)
      | ((with_reducible apply R.cpow); exact rfl)
      | with_reducible apply R.cdivX
      | ((with_reducible apply R.isNe); omega)
      | ((with_reducible apply wayNF); first | exact rfl | exact ⟨rfl, rfl⟩ | exact ⟨rfl, rfl, rfl⟩ | exact ⟨rfl, rfl, rfl, rfl⟩)
      | with_reducible apply R.bm
      | ((with_reducible apply R.bmT); (focus ((first | with_reducible assumption | ((with_reducible apply same_at); with_reducible assumption) | ((with_reducible apply kp_at); with_reducible assumption)); done)))
      | with_reducible apply R.dput
      | with_reducible apply R.dget
      | with_reducible apply R.din
      | with_reducible apply R.dget2
      | with_reducible apply R.forE
      | with_reducible apply R.rng1
      | with_reducible apply R.rng2
      | with_reducible apply R.rg1
      | with_reducible apply R.rg2
      | with_reducible apply R.lcE
      | with_reducible apply R.itup
      | with_reducible apply R.ilst
      | with_reducible apply uLawNext
      | with_reducible apply uLawChange
      | with_reducible apply uDeterminant
      | with_reducible apply uNegative
      | with_reducible apply uLawMul
      | with_reducible apply uLawWorth
      | with_reducible apply uWorth
      | with_reducible apply uScaled
      | with_reducible apply uDiscriminant
      | with_reducible apply uLawAct
      | with_reducible apply uScaled
      | with_reducible apply uLawSquare
      | with_reducible apply uLawRoot
      | with_reducible apply uFloorRoot
      | with_reducible apply uIsReducedDefinite
      | with_reducible apply uStepDown
      | with_reducible apply uScaled
      | with_reducible apply uIsReducedIndefinite
      | with_reducible apply uStepOf
      | with_reducible apply uStepNear
      | with_reducible apply uDirected
      | with_reducible apply uCompleted
      | with_reducible apply uBezout
      | with_reducible apply uFloorRoot
      | with_reducible apply uDiscriminant
      | with_reducible apply uContent
      | with_reducible apply uFlatParts
      | with_reducible apply uCycle
      | with_reducible apply uKind
      | with_reducible apply uIsSquare
      | fail
      )
    refine ⟨tU, tL, k4, -k2, u9, l9, rfl, same_seqT sn sU, same_seqT sn sL, bU, bL', bk4.mono (by decide), bk2.neg.mono (by decide), ?_⟩
    intro H16 tP s16 sP
    repeat' (first
      | with_reducible apply R.var
      | with_reducible apply R.gsE
      | ((with_reducible apply R.gsN); (focus exact rfl))
      | with_reducible apply R.lenS
      | ((with_reducible apply R.lenB); exact rfl)
      | ((with_reducible apply R.isEq); exact rfl)
      | with_reducible apply R.op
      | with_reducible apply R.i2
      | with_reducible apply R.i0
      | with_reducible apply R.con
      | with_reducible apply R.cons
      | with_reducible apply R.nil
      | ((with_reducible apply R.gBd); first | with_reducible assumption | with_reducible apply Bd.mul | with_reducible apply Bd.add | with_reducible apply Bd.sub | ((with_reducible apply Bd.l8); exact eq_true (by decide)) | ((with_reducible apply Bd.lit); exact eq_true (by decide)) | with_reducible apply Bd.neg | with_reducible apply Bd.div | with_reducible apply Bd.abs | with_reducible apply Bd.mod | with_reducible apply Bd.fdiv | ((with_reducible apply Bd.om); omega))
      | with_reducible apply Bd.mulW
      | ((with_reducible apply R.gSqT); first | with_reducible assumption | ((with_reducible apply SqT.of); with_reducible assumption) | ((with_reducible apply same_seqT); with_reducible assumption) | ((with_reducible apply kp_seqT); with_reducible assumption) | with_reducible apply hU)
      | ((with_reducible apply R.isLe); first | decide | omega)
      | with_reducible apply R.gcons
      | with_reducible apply R.gname
      | ((with_reducible apply R.ixT); (focus ((repeat' (first | with_reducible assumption | with_reducible apply hU | ((with_reducible apply SqT.of); with_reducible assumption) | ((with_reducible apply same_seqT); with_reducible assumption) | ((with_reducible apply kp_seqT); with_reducible assumption) | ((with_reducible apply Dw.same); with_reducible assumption))); done)); exact rfl)
      | ((with_reducible apply R.ixL); (focus ((repeat' (first | with_reducible assumption | ((with_reducible apply SqL.of); with_reducible assumption) | ((with_reducible apply Same.seq); with_reducible assumption) | ((with_reducible apply Kp.seqL); with_reducible assumption) | ((with_reducible apply fresh_ne); with_reducible assumption) | ((with_reducible apply Dw.same); with_reducible assumption))); done)); exact rfl)
      | with_reducible apply R.test
      | with_reducible apply R.tb'
      | with_reducible apply R.isbl
      | with_reducible apply R.cmp
      | with_reducible apply R.t2i
      | with_reducible apply R.intp
      | with_reducible apply R.ifs
      | with_reducible apply R.asg
      | with_reducible apply R.seq
      | with_reducible apply R.gtup
      | with_reducible apply R.u1
      | with_reducible apply R.un
      | with_reducible apply R.ret
      | with_reducible apply R.next
      | with_reducible apply R.call
      | with_reducible apply iteT
      | with_reducible apply iteF
      | with_reducible assumption
      | with_reducible apply R.tup
      | with_reducible apply R.lst
      | with_reducible apply R.callB
      | with_reducible apply R.gnil
      | with_reducible apply R.brk
      | with_reducible apply R.cont
      | with_reducible apply R.drop
      | with_reducible apply R.par
      | with_reducible apply R.par2
      | with_reducible apply R.par3
      | with_reducible apply R.par4
      | with_reducible apply R.tif
      | with_reducible apply R.and
      | with_reducible apply R.or
      | with_reducible apply R.not
      | with_reducible apply R.andV
      | with_reducible apply R.orV
      | with_reducible apply R.notV
      | with_reducible apply R.chain
      | with_reducible apply R.tupL
      | with_reducible apply R.lstL
      | with_reducible apply R.cat
      | with_reducible apply R.absI
      | with_reducible apply R.intI
      | with_reducible apply R.intB
      | with_reducible apply R.eqS
      | with_reducible apply R.eqBl
      | with_reducible apply R.neBl
      | with_reducible apply R.sl
      | with_reducible apply R.noPart
      | with_reducible apply R.part
      | with_reducible apply R.isInt
      | with_reducible apply R.slL
      | with_reducible apply R.isiT
      | with_reducible apply R.isiLst
      | with_reducible apply R.nwT
      | with_reducible apply R.nwL
      | ((with_reducible apply R.mt); intro HN tn sn nn ht)
      | ((with_reducible apply R.ml); intro HN tn sn nn ht)
      | ((with_reducible apply R.isiTupS); focus ((repeat' (first | with_reducible assumption | with_reducible apply hU | ((with_reducible apply SqT.of); with_reducible assumption) | ((with_reducible apply same_seqT); with_reducible assumption) | ((with_reducible apply kp_seqT); with_reducible assumption) | ((with_reducible apply Dw.same); with_reducible assumption))); done))
      | ((with_reducible apply R.ne4); focus ((repeat' (first | with_reducible assumption | with_reducible apply hU | ((with_reducible apply SqT.of); with_reducible assumption) | ((with_reducible apply same_seqT); with_reducible assumption) | ((with_reducible apply kp_seqT); with_reducible assumption) | ((with_reducible apply Dw.same); with_reducible assumption))); done))
      | ((with_reducible apply R.ne3); focus ((repeat' (first | with_reducible assumption | with_reducible apply hU | ((with_reducible apply SqT.of); with_reducible assumption) | ((with_reducible apply same_seqT); with_reducible assumption) | ((with_reducible apply kp_seqT); with_reducible assumption) | ((with_reducible apply Dw.same); with_reducible assumption))); done))
      | ((with_reducible apply R.ne2); focus ((repeat' (first | with_reducible assumption | with_reducible apply hU | ((with_reducible apply SqT.of); with_reducible assumption) | ((with_reducible apply same_seqT); with_reducible assumption) | ((with_reducible apply kp_seqT); with_reducible assumption) | ((with_reducible apply Dw.same); with_reducible assumption))); done))
      | ((with_reducible apply R.eq4); focus ((repeat' (first | with_reducible assumption | with_reducible apply hU | ((with_reducible apply SqT.of); with_reducible assumption) | ((with_reducible apply same_seqT); with_reducible assumption) | ((with_reducible apply kp_seqT); with_reducible assumption) | ((with_reducible apply Dw.same); with_reducible assumption))); done))
      | ((with_reducible apply R.eq3); focus ((repeat' (first | with_reducible assumption | with_reducible apply hU | ((with_reducible apply SqT.of); with_reducible assumption) | ((with_reducible apply same_seqT); with_reducible assumption) | ((with_reducible apply kp_seqT); with_reducible assumption) | ((with_reducible apply Dw.same); with_reducible assumption))); done))
      | ((with_reducible apply R.eq2); focus ((repeat' (first | with_reducible assumption | with_reducible apply hU | ((with_reducible apply SqT.of); with_reducible assumption) | ((with_reducible apply same_seqT); with_reducible assumption) | ((with_reducible apply kp_seqT); with_reducible assumption) | ((with_reducible apply Dw.same); with_reducible assumption))); done))
      | ((with_reducible apply R.nw); intro HN tn sn ht)
      | with_reducible apply R.notT
      | with_reducible apply R.notF
      | ((with_reducible apply SqL.of); with_reducible assumption)
      | ((with_reducible apply sameB); with_reducible assumption)
      | ((with_reducible apply same_at); with_reducible assumption)
      | ((with_reducible apply Same.seq); with_reducible assumption)
      | ((with_reducible apply Kp.seqL); with_reducible assumption)
      | ((with_reducible apply fresh_ne); with_reducible assumption)
      | ((with_reducible apply Dw.same); with_reducible assumption)
      | ((with_reducible apply R.isEq); exact eq_true (by first | decide | omega))
      | ((with_reducible apply R.isLt); first | decide | omega)
      | ((with_reducible apply R.isLtI); first | decide | omega)
      | ((with_reducible apply R.isLeI); first | decide | omega)
      | ((with_reducible apply R.cdiv); exact rfl)
      | ((with_reducible apply R.cpow); exact rfl)
      | with_reducible apply R.cdivX
      | ((with_reducible apply R.isNe); omega)
      | ((with_reducible apply wayNF); first | exact rfl | exact ⟨rfl, rfl⟩ | exact ⟨rfl, rfl, rfl⟩ | exact ⟨rfl, rfl, rfl, rfl⟩)
      | with_reducible apply R.bm
      | ((with_reducible apply R.bmT); (focus ((first | with_reducible assumption | ((with_reducible apply same_at); with_reducible assumption) | ((with_reducible apply kp_at); with_reducible assumption)); done)))
      | with_reducible apply R.dput
      | with_reducible apply R.dget
      | with_reducible apply R.din
      | with_reducible apply R.dget2
      | with_reducible apply R.forE
      | with_reducible apply R.rng1
      | with_reducible apply R.rng2
      | with_reducible apply R.rg1
      | with_reducible apply R.rg2
      | with_reducible apply R.lcE
      | with_reducible apply R.itup
      | with_reducible apply R.ilst
      | with_reducible apply uLawNext
      | with_reducible apply uLawChange
      | with_reducible apply uDeterminant
      | with_reducible apply uNegative
      | with_reducible apply uLawMul
      | with_reducible apply uLawWorth
      | with_reducible apply uWorth
      | with_reducible apply uScaled
      | with_reducible apply uDiscriminant
      | with_reducible apply uLawAct
      | with_reducible apply uScaled
      | with_reducible apply uLawSquare
      | with_reducible apply uLawRoot
      | with_reducible apply uFloorRoot
      | with_reducible apply uIsReducedDefinite
      | with_reducible apply uStepDown
      | with_reducible apply uScaled
      | with_reducible apply uIsReducedIndefinite
      | with_reducible apply uStepOf
      | with_reducible apply uStepNear
      | with_reducible apply uDirected
      | with_reducible apply uCompleted
      | with_reducible apply uBezout
      | with_reducible apply uFloorRoot
      | with_reducible apply uDiscriminant
      | with_reducible apply uContent
      | with_reducible apply uFlatParts
      | with_reducible apply uCycle
      | with_reducible apply uKind
      | with_reducible apply uIsSquare
      | fail
      )
    refine ⟨tU, tL, -k3, k1, u9, l9, rfl, same_seqT (sn.trans s16) sU, same_seqT (sn.trans s16) sL, bU, bL', bk3.neg.mono (by decide), bk1.mono (by decide), ?_⟩
    intro H17 tQ s17 sQ
    have sF := same_seqT ((sn.trans s16).trans s17) sF
    have s18 := (s15.trans sn).trans (s16.trans s17)
    have sP := same_seqT s17 sP
    clear ht sn
    repeat' (first
      | with_reducible apply R.var
      | with_reducible apply R.gsE
      | ((with_reducible apply R.gsN); (focus exact rfl))
      | with_reducible apply R.lenS
      | ((with_reducible apply R.lenB); exact rfl)
      | ((with_reducible apply R.isEq); exact rfl)
      | with_reducible apply R.op
      | with_reducible apply R.i2
      | with_reducible apply R.i0
      | with_reducible apply R.con
      | with_reducible apply R.cons
      | with_reducible apply R.nil
      | ((with_reducible apply R.gBd); first | with_reducible assumption | with_reducible apply Bd.mul | with_reducible apply Bd.add | with_reducible apply Bd.sub | ((with_reducible apply Bd.l8); exact eq_true (by decide)) | ((with_reducible apply Bd.lit); exact eq_true (by decide)) | with_reducible apply Bd.neg | with_reducible apply Bd.div | with_reducible apply Bd.abs | with_reducible apply Bd.mod | with_reducible apply Bd.fdiv | ((with_reducible apply Bd.om); omega))
      | with_reducible apply Bd.mulW
      | ((with_reducible apply R.gSqT); first | with_reducible assumption | ((with_reducible apply SqT.of); with_reducible assumption) | ((with_reducible apply same_seqT); with_reducible assumption) | ((with_reducible apply kp_seqT); with_reducible assumption) | with_reducible apply hU)
      | ((with_reducible apply R.isLe); first | decide | omega)
      | with_reducible apply R.gcons
      | with_reducible apply R.gname
      | ((with_reducible apply R.ixT); (focus ((repeat' (first | with_reducible assumption | with_reducible apply hU | ((with_reducible apply SqT.of); with_reducible assumption) | ((with_reducible apply same_seqT); with_reducible assumption) | ((with_reducible apply kp_seqT); with_reducible assumption) | ((with_reducible apply Dw.same); with_reducible assumption))); done)); exact rfl)
      | ((with_reducible apply R.ixL); (focus ((repeat' (first | with_reducible assumption | ((with_reducible apply SqL.of); with_reducible assumption) | ((with_reducible apply Same.seq); with_reducible assumption) | ((with_reducible apply Kp.seqL); with_reducible assumption) | ((with_reducible apply fresh_ne); with_reducible assumption) | ((with_reducible apply Dw.same); with_reducible assumption))); done)); exact rfl)
      | with_reducible apply R.test
      | with_reducible apply R.tb'
      | with_reducible apply R.isbl
      | with_reducible apply R.cmp
      | with_reducible apply R.t2i
      | with_reducible apply R.intp
      | with_reducible apply R.ifs
      | with_reducible apply R.asg
      | with_reducible apply R.seq
      | with_reducible apply R.gtup
      | with_reducible apply R.u1
      | with_reducible apply R.un
      | with_reducible apply R.ret
      | with_reducible apply R.next
      | with_reducible apply R.call
      | with_reducible apply iteT
      | with_reducible apply iteF
      | with_reducible assumption
      | with_reducible apply R.tup
      | with_reducible apply R.lst
      | with_reducible apply R.callB
      | with_reducible apply R.gnil
      | with_reducible apply R.brk
      | with_reducible apply R.cont
      | with_reducible apply R.drop
      | with_reducible apply R.par
      | with_reducible apply R.par2
      | with_reducible apply R.par3
      | with_reducible apply R.par4
      | with_reducible apply R.tif
      | with_reducible apply R.and
      | with_reducible apply R.or
      | with_reducible apply R.not
      | with_reducible apply R.andV
      | with_reducible apply R.orV
      | with_reducible apply R.notV
      | with_reducible apply R.chain
      | with_reducible apply R.tupL
      | with_reducible apply R.lstL
      | with_reducible apply R.cat
      | with_reducible apply R.absI
      | with_reducible apply R.intI
      | with_reducible apply R.intB
      | with_reducible apply R.eqS
      | with_reducible apply R.eqBl
      | with_reducible apply R.neBl
      | with_reducible apply R.sl
      | with_reducible apply R.noPart
      | with_reducible apply R.part
      | with_reducible apply R.isInt
      | with_reducible apply R.slL
      | with_reducible apply R.isiT
      | with_reducible apply R.isiLst
      | with_reducible apply R.nwT
      | with_reducible apply R.nwL
      | ((with_reducible apply R.mt); intro HN tn sn nn ht)
      | ((with_reducible apply R.ml); intro HN tn sn nn ht)
      | ((with_reducible apply R.isiTupS); focus ((repeat' (first | with_reducible assumption | with_reducible apply hU | ((with_reducible apply SqT.of); with_reducible assumption) | ((with_reducible apply same_seqT); with_reducible assumption) | ((with_reducible apply kp_seqT); with_reducible assumption) | ((with_reducible apply Dw.same); with_reducible assumption))); done))
      | ((with_reducible apply R.ne4); focus ((repeat' (first | with_reducible assumption | with_reducible apply hU | ((with_reducible apply SqT.of); with_reducible assumption) | ((with_reducible apply same_seqT); with_reducible assumption) | ((with_reducible apply kp_seqT); with_reducible assumption) | ((with_reducible apply Dw.same); with_reducible assumption))); done))
      | ((with_reducible apply R.ne3); focus ((repeat' (first | with_reducible assumption | with_reducible apply hU | ((with_reducible apply SqT.of); with_reducible assumption) | ((with_reducible apply same_seqT); with_reducible assumption) | ((with_reducible apply kp_seqT); with_reducible assumption) | ((with_reducible apply Dw.same); with_reducible assumption))); done))
      | ((with_reducible apply R.ne2); focus ((repeat' (first | with_reducible assumption | with_reducible apply hU | ((with_reducible apply SqT.of); with_reducible assumption) | ((with_reducible apply same_seqT); with_reducible assumption) | ((with_reducible apply kp_seqT); with_reducible assumption) | ((with_reducible apply Dw.same); with_reducible assumption))); done))
      | ((with_reducible apply R.eq4); focus ((repeat' (first | with_reducible assumption | with_reducible apply hU | ((with_reducible apply SqT.of); with_reducible assumption) | ((with_reducible apply same_seqT); with_reducible assumption) | ((with_reducible apply kp_seqT); with_reducible assumption) | ((with_reducible apply Dw.same); with_reducible assumption))); done))
      | ((with_reducible apply R.eq3); focus ((repeat' (first | with_reducible assumption | with_reducible apply hU | ((with_reducible apply SqT.of); with_reducible assumption) | ((with_reducible apply same_seqT); with_reducible assumption) | ((with_reducible apply kp_seqT); with_reducible assumption) | ((with_reducible apply Dw.same); with_reducible assumption))); done))
      | ((with_reducible apply R.eq2); focus ((repeat' (first | with_reducible assumption | with_reducible apply hU | ((with_reducible apply SqT.of); with_reducible assumption) | ((with_reducible apply same_seqT); with_reducible assumption) | ((with_reducible apply kp_seqT); with_reducible assumption) | ((with_reducible apply Dw.same); with_reducible assumption))); done))
      | ((with_reducible apply R.nw); intro HN tn sn ht)
      | with_reducible apply R.notT
      | with_reducible apply R.notF
      | ((with_reducible apply SqL.of); with_reducible assumption)
      | ((with_reducible apply sameB); with_reducible assumption)
      | ((with_reducible apply same_at); with_reducible assumption)
      | ((with_reducible apply Same.seq); with_reducible assumption)
      | ((with_reducible apply Kp.seqL); with_reducible assumption)
      | ((with_reducible apply fresh_ne); with_reducible assumption)
      | ((with_reducible apply Dw.same); with_reducible assumption)
      | ((with_reducible apply R.isEq); exact eq_true (by first | decide | omega))
      | ((with_reducible apply R.isLt); first | decide | omega)
      | ((with_reducible apply R.isLtI); first | decide | omega)
      | ((with_reducible apply R.isLeI); first | decide | omega)
      | ((with_reducible apply R.cdiv); exact rfl)
      | ((with_reducible apply R.cpow); exact rfl)
      | with_reducible apply R.cdivX
      | ((with_reducible apply R.isNe); omega)
      | ((with_reducible apply wayNF); first | exact rfl | exact ⟨rfl, rfl⟩ | exact ⟨rfl, rfl, rfl⟩ | exact ⟨rfl, rfl, rfl, rfl⟩)
      | with_reducible apply R.bm
      | ((with_reducible apply R.bmT); (focus ((first | with_reducible assumption | ((with_reducible apply same_at); with_reducible assumption) | ((with_reducible apply kp_at); with_reducible assumption)); done)))
      | with_reducible apply R.dput
      | with_reducible apply R.dget
      | with_reducible apply R.din
      | with_reducible apply R.dget2
      | with_reducible apply R.forE
      | with_reducible apply R.rng1
      | with_reducible apply R.rng2
      | with_reducible apply R.rg1
      | with_reducible apply R.rg2
      | with_reducible apply R.lcE
      | with_reducible apply R.itup
      | with_reducible apply R.ilst
      | with_reducible apply uLawNext
      | with_reducible apply uLawChange
      | with_reducible apply uDeterminant
      | with_reducible apply uNegative
      | with_reducible apply uLawMul
      | with_reducible apply uLawWorth
      | with_reducible apply uWorth
      | with_reducible apply uScaled
      | with_reducible apply uDiscriminant
      | with_reducible apply uLawAct
      | with_reducible apply uScaled
      | with_reducible apply uLawSquare
      | with_reducible apply uLawRoot
      | with_reducible apply uFloorRoot
      | with_reducible apply uIsReducedDefinite
      | with_reducible apply uStepDown
      | with_reducible apply uScaled
      | with_reducible apply uIsReducedIndefinite
      | with_reducible apply uStepOf
      | with_reducible apply uStepNear
      | with_reducible apply uDirected
      | with_reducible apply uCompleted
      | with_reducible apply uBezout
      | with_reducible apply uFloorRoot
      | with_reducible apply uDiscriminant
      | with_reducible apply uContent
      | with_reducible apply uFlatParts
      | with_reducible apply uCycle
      | with_reducible apply uKind
      | with_reducible apply uIsSquare
      | fail
      )
    rename_i Hx tx sx nx htx
    have b1 := (bd_lin bk4 bk2.neg bU bL').mono (show _ ≤ 130800 by decide)
    have b2 := (bd_lin bk3.neg bk1 bU bL').mono (show _ ≤ 130800 by decide)
    have s19 := sx.trans sn
    exact kk HN tn tF tx tP tQ (X3, Y3, Z3) _ _ (s18.trans s19) ht (same_seqT s19 sF) (sn _ _ htx) (same_seqT s19 sP) (same_seqT s19 sQ) cF kcn b1 b2
theorem dvs_abs {d : Int} (v : DvS d) : d.natAbs ≤ 401 := by
  rcases v with v | v
  · omega
  · have := v.lo
    have := v.hi
    omega
def PwQ (K : PySem.W.Frag) (H : Hp) (d : Int) (h : Fm) (Q : VK) : Prop := ∀ H' t, Same H H' → SqT K H' t ((fL h).map V.int) → Q (.ref t) H'
theorem InC.sm {d : Int} {f : Fm} (v : DvS d) (k : InC d f) : SmF f := by
  obtain ⟨a, b, c⟩ := f
  obtain ⟨h1, h2, h3⟩ := cl_small (a := a) (b := b) (c := c) v k
  exact ⟨by show a.natAbs ≤ _; omega, by show b.natAbs ≤ _; omega, by show c.natAbs ≤ _; omega⟩
theorem uComposeC {K : PySem.W.Frag} {H : Hp} {Q : VK} {E : XK} {vs : List V} {af ag : Addr} {d : Int} {f g : Fm} (e : vs = [.ref af, .ref ag]) (s1 : SqT K H af ((fL f).map V.int)) (s2 : SqT K H ag ((fL g).map V.int)) (v : DvS d) (F : FdF d f) (G : FdF d g) (b1 : SmF f) (b2 : SmF g)
    (kk : ∀ H' t tF tr, Same H H' → H' t = some (.tup [.ref tF, .ref tr]) → SqT K H' tF ((fL (cm d (clf d f) (clf d g))).map V.int) → Q (.ref t) H') : spCompose K vs H Q E :=
  ⟨af, ag, d, f, g, e, s1, s2, v, F, G, b1, b2, fun H' t tF tr t1 t2 h p q s0 ht sF _ _ _ C k _ _ => kk H' t tF tr s0 ht (by rw [← cm_cl v F G ⟨k, _, _, C⟩]; exact sF)⟩
def spPwM (K : PySem.W.Frag) : Sp := fun vs H Q _ => ∃ (af : Addr) (d : Int) (f : Fm) (m : Nat), vs = [.ref af, .int (-(m : Int))] ∧ SqT K H af ((fL f).map V.int) ∧ DvS d ∧ D4 d ∧ FdF d f ∧ SmF f ∧ 0 < m ∧ m < 2 ^ 6 ∧ PwQ K H d (pw d (opC d f) m) Q
def spPwN (n : Nat) (K : PySem.W.Frag) : Sp := fun vs H Q _ => ∃ (af : Addr) (d : Int) (f : Fm) (m : Nat), vs = [.ref af, .int (m : Int)] ∧ SqT K H af ((fL f).map V.int) ∧ DvS d ∧ D4 d ∧ FdF d f ∧ SmF f ∧ m < 2 ^ n ∧ PwQ K H d (pw d (clf d f) m) Q

theorem okPwN (T : Txt K mg fa fd) : ∀ n : Nat, FnOk P w K mg base CX0 (13 + n) (fa 46) (fd 46) ["form", "many"] (spPwN n K)
  | 0 => by
    refine T.F_class_power.ok scClassPower (fun vs H Q E h => ?_) (fun cdv A outer s0 H vs Q E0' hr h => ?_)
    · obtain ⟨af, d, f, m, rfl, _⟩ := h
      rfl
    · obtain ⟨af, d, ⟨a, b, c⟩, m, rfl, sf, v, d4, F, ⟨b1, b2, b3⟩, hm, kk⟩ := h
      refine ⟨_, (pss_cons (ps_if (pt_cmp (pc_lt (pv 1) pe_int)) (pss_one ps_never) pss_nil) (pss_cons (ps_if (pt_cmp (pc_eqI (pv 1) pe_int))
(pss_one (ps_ret (pe_call (sp := spPrincipal K) (okPrincipal T) (hr.mono (by decide)) (by rfl) T.G_principal T.F_principal.kp T.B_principal .nil pass0 (pa_cons (pe_call (sp := spDiscriminant K) (okDiscriminant T) (hr.mono (by decide)) (by rfl) T.G_discriminant T.F_discriminant.kp T.B_discriminant .nil pass0 (pa_cons (pv 0) pa_nil)) pa_nil))))
pss_nil) (pss_cons ps_never (pss_cons ps_never (pss_one ps_never))))), ?_⟩
      have hm : m = 0 := by
        have : m < 1 := hm
        omega
      subst hm
      have sf : SqT K H af [.int a, .int b, .int c] := sf
      dsimp only at b1 b2 b3
      have hd : b * b - 4 * a * c = d := F.ds
      have ba : Bd 60 a := Bd.om (by omega)
      have bb : Bd 60 b := Bd.om (by omega)
      have bc : Bd 60 c := Bd.om (by omega)
      clean_wf
      refine wayF (by omega) ?_
      clean_wf
      refine wayT (by omega) ?_
      clean_wf
      rw [hd]
      have dab := dvs_abs v
      refine uPrincipal rfl (by omega) ((prin_fd d4).ins v) ?_
      intro H' t x y z s1 st C
      clean_wf
      have e := clf_of v (prin_fd d4) C
      refine kk _ _ (by array_mem_dec) ?_
      show SqT K _ t ((fL (eC d)).map V.int)
      unfold eC
      rw [← e]
      exact st
  | n + 1 => by
    refine T.F_class_power.ok scClassPower (fun vs H Q E h => ?_) (fun cdv A outer s0 H vs Q E0' hr h => ?_)
    · obtain ⟨af, d, f, m, rfl, _⟩ := h
      rfl
    · obtain ⟨af, d, ⟨a, b, c⟩, m, rfl, sf, v, d4, F, ⟨b1, b2, b3⟩, hm, kk⟩ := h
      refine ⟨_, (pss_cons (ps_if (pt_cmp (pc_lt (pv 1) pe_int)) (pss_one ps_never) pss_nil) (pss_cons (ps_if (pt_cmp (pc_eqI (pv 1) pe_int))
(pss_one (ps_ret (pe_call (sp := spPrincipal K) (okPrincipal T) (hr.mono (show _ ≤ 13 + n by omega)) (by rfl) T.G_principal T.F_principal.kp T.B_principal .nil pass0 (pa_cons (pe_call (sp := spDiscriminant K) (okDiscriminant T) (hr.mono (show _ ≤ 13 + n by omega)) (by rfl) T.G_discriminant T.F_discriminant.kp T.B_discriminant .nil pass0 (pa_cons (pv 0) pa_nil)) pa_nil))))
pss_nil) (pss_cons (ps_set (i := 2) scClassPower.nd rfl (Or.inl rfl) (pe_call (sp := spPwN n K) (okPwN T n) hr (by rfl) T.G_class_power T.F_class_power.kp T.B_class_power .nil pass0 (pa_cons (pv 0) (pa_cons (pe_op op_fdivX (pv 1) pe_int) pa_nil))))
        (pss_cons (ps_set (i := 3) scClassPower.nd rfl (Or.inl rfl) (pe_ix (ixT K) (pe_call (sp := spCompose K) (okCompose T) (hr.mono (show _ ≤ 13 + n by omega)) (by rfl) T.G_compose T.F_compose.kp T.B_compose .nil pass0 (pa_cons (pv 2) (pa_cons (pv 2) pa_nil))) pe_int (fun _ _ => rfl)))
        (pss_one (ps_ret (pe_ifExp (pt_cmp (pc_eqI (pe_op op_modN (pv 1) pe_int) pe_int)) (pv 3) (pe_ix (ixT K) (pe_call (sp := spCompose K) (okCompose T) (hr.mono (show _ ≤ 13 + n by omega)) (by rfl) T.G_compose T.F_compose.kp T.B_compose .nil pass0 (pa_cons (pv 3) (pa_cons (pv 0) pa_nil))) pe_int (fun _ _ => rfl))))))))), ?_⟩
      have sf : SqT K H af [.int a, .int b, .int c] := sf
      dsimp only at b1 b2 b3
      have hd : b * b - 4 * a * c = d := F.ds
      have ba : Bd 60 a := Bd.om (by omega)
      have bb : Bd 60 b := Bd.om (by omega)
      have bc : Bd 60 c := Bd.om (by omega)
      clean_wf
      refine wayF (by omega) ?_
      clean_wf
      refine way2 (fun z => ?_) (fun z => ?_)
      · skip
        clean_wf
        rw [hd]
        have dab := dvs_abs v
        have hm0 : m = 0 := by omega
        subst hm0
        refine uPrincipal rfl (by omega) ((prin_fd d4).ins v) ?_
        intro H' t x y z s1 st C
        clean_wf
        have e := clf_of v (prin_fd d4) C
        refine kk _ _ (by array_mem_dec) ?_
        show SqT K _ t ((fL (eC d)).map V.int)
        unfold eC
        rw [← e]
        exact st
      · skip
        clean_wf
        have e2 : ((m : Int)).fdiv 2 = ((m / 2 : Nat) : Int) := by
          rw [Int.fdiv_eq_ediv_of_nonneg _ (show (0 : Int) ≤ 2 by decide)]
          omega
        rw [e2]
        refine ⟨af, d, (a, b, c), m / 2, rfl, sf, v, d4, F, ⟨b1, b2, b3⟩, by have : m < 2 ^ n * 2 := hm; omega, ?_⟩
        intro H1 tH s1 sH
        have sf := same_seqT s1 sf
        have kf := clf_in v F
        have kp := pw_in v d4 kf (m / 2)
        have ww := pw_add v d4 kf (m / 2) (m / 2)
        have wl := pw_add v d4 kf (m / 2 + m / 2) 1
        rw [pw_one v d4 kf] at wl
        obtain ⟨g, hg⟩ : ∃ g, pw d (clf d (a, b, c)) (m / 2) = g := ⟨_, rfl⟩
        rw [hg] at sH kp ww
        have G := (cl_fd v kp).1
        have cg := clf_self v kp
        clean_wf
        have sg := InC.sm v kp
        refine uComposeC rfl sH sH v G G sg sg ?_
        intro H2 t2 tF tr s2 ht2 sF
        rw [cg, ww] at sF
        have sf := same_seqT s2 sf
        have kp2 := pw_in v d4 kf (m / 2 + m / 2)
        obtain ⟨g2, hg2⟩ : ∃ g2, pw d (clf d (a, b, c)) (m / 2 + m / 2) = g2 := ⟨_, rfl⟩
        rw [hg2] at sF kp2 wl
        have G2 := (cl_fd v kp2).1
        have cg2 := clf_self v kp2
        have sg2 := InC.sm v kp2
        clean_wf
        refine way2 (fun y => ?_) (fun y => ?_)
        · skip
          clean_wf
          have em : m = m / 2 + m / 2 := by
            have := Int.emod_eq_zero_of_dvd (Int.dvd_of_fmod_eq_zero y)
            omega
          refine kk _ _ (s1.trans s2) ?_
          rw [em, hg2]
          exact sF
        · skip
          clean_wf
          have em : m = m / 2 + m / 2 + 1 := by
            have : ¬ ((m : Int) % 2 = 0) := fun h => y (Int.fmod_eq_zero_of_dvd (Int.dvd_of_emod_eq_zero h))
            omega
          refine uComposeC (g := (a, b, c)) rfl sF sf v G2 F sg2 ⟨b1, b2, b3⟩ ?_
          intro H3 t3 tF3 tr3 s3 ht3 sF3
          rw [cg2, wl, ← em] at sF3
          clean_wf
          exact kk _ _ ((s1.trans s2).trans s3) sF3
theorem okPwM (T : Txt K mg fa fd) : FnOk P w K mg base CX0 (13 + 7) (fa 46) (fd 46) ["form", "many"] (spPwM K) := by
  refine T.F_class_power.ok scClassPower (fun vs H Q E h => ?_) (fun cdv A outer s0 H vs Q E0' hr h => ?_)
  · obtain ⟨af, d, f, m, rfl, _⟩ := h
    rfl
  · obtain ⟨af, d, ⟨a, b, c⟩, m, rfl, sf, v, d4, F, ⟨b1, b2, b3⟩, m0, hm, kk⟩ := h
    refine ⟨_, (pss_cons (ps_if (pt_cmp (pc_lt (pv 1) pe_int))
(pss_one (ps_ret (pe_call (sp := spPwN 6 K) (okPwN T 6) hr (by rfl) T.G_class_power T.F_class_power.kp T.B_class_power .nil pass0 (pa_cons (pe_call (sp := spOpposite K) (okOpposite T) (hr.mono (by decide)) (by rfl) T.G_opposite T.F_opposite.kp T.B_opposite .nil pass0 (pa_cons (pv 0) pa_nil)) (pa_cons (pe_un un_neg (pv 1)) pa_nil)))))
pss_nil) (pss_cons ps_never (pss_cons ps_never (pss_cons ps_never (pss_one ps_never))))), ?_⟩
    have sf : SqT K H af [.int a, .int b, .int c] := sf
    dsimp only at b1 b2 b3
    clean_wf
    refine wayT (by omega) ?_
    clean_wf
    refine uOpposite rfl sf b1 b2 b3 (F.mir.ins v) ?_
    intro H1 t1 x y z s1 st1 C1
    have e1 : (x, y, z) = opC d (a, b, c) := clf_of v F.mir C1
    have ko : InC d (x, y, z) := by
      rw [e1]
      exact clf_in v F.mir
    have G := (cl_fd v ko).1
    have cg := clf_self v ko
    clean_wf
    refine ⟨t1, d, (x, y, z), m, by rw [Int.neg_neg]; rfl, st1, v, d4, G, InC.sm v ko, hm, ?_⟩
    intro H2 t2 s2 st2
    rw [cg, e1] at st2
    exact kk _ _ (s1.trans s2) st2
def spClassPower (K : PySem.W.Frag) : Sp := fun vs H Q _ => ∃ (af : Addr) (d : Int) (f : Fm) (m : Int), vs = [.ref af, .int m] ∧ SqT K H af ((fL f).map V.int) ∧ DvS d ∧ D4 d ∧ FdF d f ∧ SmF f ∧ m.natAbs < 64 ∧ PwQ K H d (if m < 0 then pw d (opC d f) m.natAbs else pw d (clf d f) m.natAbs) Q
theorem okClassPower (T : Txt K mg fa fd) : FnOk P w K mg base CX0 20 (fa 46) (fd 46) ["form", "many"] (spClassPower K) := by
  have F0 := (okPwN (P := P) (w := w) (base := base) T 6).mono (k := 20) (by decide)
  have F1 := (okPwM (P := P) (w := w) (base := base) T).mono (k := 20) (by decide)
  have key : ∀ vs H Q E, spClassPower K vs H Q E → spPwN 6 K vs H Q E ∨ spPwM K vs H Q E := by
    rintro vs H Q E0' ⟨af, d, f, m, e, hs, v, d4, F, b, hm, kk⟩
    by_cases z : m < 0
    · right
      rw [if_pos z] at kk
      exact ⟨af, d, f, m.natAbs, by rw [e, show m = -(m.natAbs : Int) by omega]; simp, hs, v, d4, F, b, by omega, hm, kk⟩
    · left
      rw [if_neg z] at kk
      exact ⟨af, d, f, m.natAbs, by rw [e, show m = (m.natAbs : Int) by omega]; simp, hs, v, d4, F, b, hm, kk⟩
  exact ⟨fun vs H Q E h => (key vs H Q E h).elim (F0.len vs H Q E) (F1.len vs H Q E), fun A outer s H args us vs Q E hr he hb hv h => (key vs H Q E h).elim (F0.run A outer s H args us vs Q E hr he hb hv) (F1.run A outer s H args us vs Q E hr he hb hv)⟩
def spClassOrder (K : PySem.W.Frag) : Sp := fun vs H Q _ => ∃ (af : Addr) (d : Int) (f : Fm) (k : Nat), vs = [.ref af] ∧ SqT K H af ((fL f).map V.int) ∧ DvS d ∧ D4 d ∧ FdF d f ∧ SmF f ∧ 1 ≤ k ∧ k ≤ 1000 ∧ pw d (clf d f) k = eC d ∧ (∀ j, 1 ≤ j → j < k → pw d (clf d f) j ≠ eC d) ∧ ∀ H', Same H H' → Q (.int (k : Int)) H'
theorem okClassOrder (T : Txt K mg fa fd) : FnOk P w K mg base CX0 15 (fa 47) (fd 47) ["form"] (spClassOrder K) := by
  refine T.F_class_order.ok scClassOrder (fun vs H Q E h => ?_) (fun cdv A outer s H vs Q E hr h => ?_)
  · obtain ⟨af, d, ⟨a, b, c⟩, k, rfl, sf, v, d4, F, ⟨b1, b2, b3⟩, k1, k2, k3, k4, kk⟩ := h
    rfl
  · obtain ⟨af, d, ⟨a, b, c⟩, k, rfl, sf, v, d4, F, ⟨b1, b2, b3⟩, k1, k2, k3, k4, kk⟩ := h
    refine ⟨_, (pss_cons (ps_set (i := 1) scClassOrder.nd rfl (Or.inl rfl) (pe_call (sp := spPrincipal K) (okPrincipal T) (hr.mono (by decide)) (by rfl) T.G_principal T.F_principal.kp T.B_principal .nil pass0 (pa_cons (pe_call (sp := spDiscriminant K) (okDiscriminant T) (hr.mono (by decide)) (by rfl) T.G_discriminant T.F_discriminant.kp T.B_discriminant .nil pass0 (pa_cons (pv 0) pa_nil)) pa_nil)))
      (pss_cons (ps_set (i := 2) scClassOrder.nd rfl (Or.inl rfl) (pe_ix (ixT K) (pe_call (sp := spCanonicalForm K) (okCanonicalForm T) (hr.mono (by decide)) (by rfl) T.G_canonical_form T.F_canonical_form.kp T.B_canonical_form .nil pass0 (pa_cons (pv 0) pa_nil)) pe_int (fun _ _ => rfl)))
      (pss_cons (ps_set (i := 3) scClassOrder.nd rfl (Or.inl rfl) pe_int)
      (pss_cons (ps_while PassesOwn.never (pt_cmpR (neDQ K hr.units) (pv 2) (pv 1) (nomark _))
      (pss_cons (ps_set (i := 2) scClassOrder.nd rfl (Or.inl rfl) (pe_ix (ixT K) (pe_call (sp := spCompose K) (okCompose T) (hr.mono (by decide)) (by rfl) T.G_compose T.F_compose.kp T.B_compose .nil pass0 (pa_cons (pv 2) (pa_cons (pv 0) pa_nil))) pe_int (fun _ _ => rfl)))
        (pss_one (ps_aug (i := 3) scClassOrder.nd rfl (Or.inl rfl) pe_int ip_add))))
      (pss_one (ps_ret (pv 3))))))), ?_⟩
    have sf : SqT K H af [.int a, .int b, .int c] := sf
    dsimp only at b1 b2 b3
    have hd : b * b - 4 * a * c = d := F.ds
    have ba : Bd 60 a := Bd.om (by omega)
    have bb : Bd 60 b := Bd.om (by omega)
    have bc : Bd 60 c := Bd.om (by omega)
    have kf := clf_in v F
    have dab := dvs_abs v
    clean_wf
    rw [hd]
    refine uPrincipal rfl (by omega) ((prin_fd d4).ins v) ?_
    intro H1 tt x0 y0 z0 s1 st C0
    have eE : (x0, y0, z0) = eC d := clf_of v (prin_fd d4) C0
    have st : SqT K H1 tt ((fL (eC d)).map V.int) := by rw [← eE]; exact st
    clear eE C0
    have sf1 := same_seqT s1 sf
    clean_wf
    refine uCanonicalForm rfl sf1 (F.ins v) b1 b2 b3 ?_
    intro H2 t2 tf tm x y z p q r s s2 ht2 sF sm C
    have e1 : (x, y, z) = pw d (clf d (a, b, c)) 1 := by rw [pw_one v d4 kf]; exact clf_of v F C.cn
    have sF : SqT K H2 tf ((fL (pw d (clf d (a, b, c)) 1)).map V.int) := by rw [← e1]; exact sF
    have st := same_seqT s2 st
    have s12 := s1.trans s2
    clear s1 s2 sm C e1
    clean_wf
    refine ⟨fun m σ H' => ∃ (tf : Addr) (i : Nat), σ = [some (.ref af), some (.ref tt), some (.ref tf), some (.int (i : Int))] ∧ m = k - i ∧ 1 ≤ i ∧ i ≤ k ∧ Same H2 H' ∧ SqT K H' tf ((fL (pw d (clf d (a, b, c)) i)).map V.int), ?_, ?_⟩
    · exact ⟨k - 1, tf, 1, rfl, rfl, Nat.le_refl _, k1, Same.refl _, sF⟩
    rintro m σ H' ⟨tf, i, rfl, hm, i1, i2, s3, sF⟩
    have st := same_seqT s3 st
    have sf := same_seqT (s12.trans s3) sf
    clean_wf
    refine R.neTs sF st rfl ?_
    by_cases z9 : i = k
    · subst z9
      rw [decide_eq_true (by rw [k3])]
      clean_wf
      exact kk _ (s12.trans s3)
    · have n9 := k4 i i1 (by omega)
      rw [decide_eq_false (fun h => n9 (fL_inj h))]
      clean_wf
      refine ⟨fun σ' H3 => ∃ m' < m, ∃ (tf : Addr) (i : Nat), σ' = [some (.ref af), some (.ref tt), some (.ref tf), some (.int (i : Int))] ∧ m' = k - i ∧ 1 ≤ i ∧ i ≤ k ∧ Same H2 H3 ∧ SqT K H3 tf ((fL (pw d (clf d (a, b, c)) i)).map V.int), fun σ' H3 h => h, ?_⟩
      have kp := pw_in v d4 kf i
      obtain ⟨g, hg⟩ : ∃ g, pw d (clf d (a, b, c)) i = g := ⟨_, rfl⟩
      have nx9 : pw d (clf d (a, b, c)) (i + 1) = cm d g (clf d (a, b, c)) := by
        show cm d (pw d (clf d (a, b, c)) i) (clf d (a, b, c)) = _
        rw [hg]
      rw [hg] at sF kp
      have G := (cl_fd v kp).1
      have cg := clf_self v kp
      clean_wf
      refine uComposeC (g := (a, b, c)) rfl sF sf v G F (InC.sm v kp) ⟨b1, b2, b3⟩ ?_
      intro H4 t4 tF4 tr4 s4 ht4 sF4
      rw [cg, ← nx9] at sF4
      clean_wf
      refine ⟨.int (i : Int), rfl, ?_⟩
      refine ⟨(i : Int), 1, rfl, rfl, ?_⟩
      exact ⟨k - (i + 1), by omega, _, i + 1, rfl, rfl, by omega, by omega, s3.trans s4, sF4⟩
def spLawCell (K : PySem.W.Frag) : Sp := fun vs H Q _ => ∃ (l : Addr) (ns : List Int) (j : Nat), vs = [.ref l, .int (j : Int)] ∧ SqL K H l (ns.map V.int) ∧ ∀ v : Int, Q (.int v) H
theorem okLawCell (T : Txt K mg fa fd) : FnOk P w K mg base CX0 1 (fa 48) (fd 48) ["script", "k"] (spLawCell K) := by
  refine T.F__law_cell.ok scLawCell (fun vs H Q E h => ?_) (fun cdv A outer s H vs Q E hr h => ?_)
  · obtain ⟨l, ns, j, rfl, hS, q⟩ := h
    rfl
  · obtain ⟨l, ns, j, rfl, hS, q⟩ := h
    refine ⟨_, (pss_cons (ps_if (pt_cmp (pc_lt (pv 1) (pe_callB (lenQ K) (by rfl) T.m_len (by decide +kernel) (pa_cons (pv 0) pa_nil))))
      (pss_one (ps_ret (pe_ix (ixL K) (pv 0) (pv 1) (fun _ _ => rfl))))
      pss_nil)
      (pss_one (ps_ret pe_int))), ?_⟩
    refine ⟨_, rfl, _, rfl, _, _, rfl, .inl hS, _, _, rfl, rfl, _, rfl, ite2 (fun e => ?_) (fun e => ?_)⟩
    · have e1 : (j : Int) < ((ns.map V.int).length : Int) := of_decide_eq_true e
      have hj : j < ns.length := by
        rw [List.length_map] at e1
        omega
      exact ⟨_, rfl, _, rfl, _, _, _, _, rfl, rfl, hS, atI_nat (by rw [List.getElem?_map, List.getElem?_eq_getElem hj]; rfl), q _⟩
    · exact q 0
def spLawNumbers (K : PySem.W.Frag) : Sp := fun vs H Q _ => ∃ (c : Int) (m : Nat), vs = [.int c, .int (m : Int)] ∧ m ≤ 100 ∧
  ∀ H' p (ns : List Int), Same H H' → H p = none → H' p = some (.lst (ns.map V.int)) → ns.length = m → (∀ n ∈ ns, 0 ≤ n ∧ n < 1000) → Q (.ref p) H'
theorem okLawNumbers (T : Txt K mg fa fd) : FnOk P w K mg base CX0 1 (fa 49) (fd 49) ["cell", "many"] (spLawNumbers K) := by
  refine T.F__law_numbers.ok scLawNumbers (fun vs H Q E h => ?_) (fun cdv A outer s H vs Q E hr h => ?_)
  · obtain ⟨c, m, rfl, hm, q⟩ := h
    rfl
  · obtain ⟨c, m, rfl, hm, q⟩ := h
    refine ⟨_, (pss_cons (ps_set (i := 2) scLawNumbers.nd rfl (Or.inl rfl) (pe_callB (absQ K) (by rfl) T.m_abs (by decide +kernel) (pa_cons (pv 0) pa_nil)))
      (pss_cons (ps_set (i := 3) scLawNumbers.nd rfl (Or.inl rfl) (pv 2))
      (pss_cons (ps_set (i := 4) scLawNumbers.nd rfl (Or.inl rfl) (pe_lst pa_nil))
      (pss_cons (ps_for PassesOwn.never rfl (pi_range1 (by rfl) T.m_range (pa_cons (pv 1) pa_nil)) (pg_name (i := 5) scLawNumbers.nd rfl (Or.inl rfl))
      (pss_one (ps_if (PW.pt (pw_and (pt_cmp (pc_ge (pv 3) (pe_op op_pow pe_int pe_int))) (pw_and1 (pt_cmp (pc_gt (pv 2) pe_int)))))
        (pss_cons (ps_expr (pe_bm PySem.F.plainAttrs_list PySem.F.slot_list_append PySem.F.type_list_append mt_append (pv 4) (pa_cons (pe_op op_mod (pe_callTy (intQ K) (by rfl) T.m_int (by decide +kernel) (pa_cons (pv 2) pa_nil)) pe_int) pa_nil)))
          (pss_one (ps_set (i := 2) scLawNumbers.nd rfl (Or.inl rfl) (pe_op op_fdiv (pv 2) pe_int))))
        (pss_cons (ps_set (i := 6) scLawNumbers.nd rfl (Or.inl rfl) (pe_op op_mod (pe_callTy (intQ K) (by rfl) T.m_int (by decide +kernel) (pa_cons (pe_op op_add (pe_op op_add (pe_op op_mul (pv 3) pe_int) (pe_op op_mul (pv 5) pe_int)) pe_int) pa_nil)) pe_int))
          (pss_cons (ps_set (i := 6) scLawNumbers.nd rfl (Or.inl rfl) (pe_op op_mod (pe_callTy (intQ K) (by rfl) T.m_int (by decide +kernel) (pa_cons (pe_op op_add (pe_op op_add (pe_op op_mul (pv 6) (pv 6)) (pe_op op_mul pe_int (pv 5))) pe_int) pa_nil)) pe_int))
          (pss_one (ps_expr (pe_bm PySem.F.plainAttrs_list PySem.F.slot_list_append PySem.F.type_list_append mt_append (pv 4) (pa_cons (pe_op op_mod (pe_callTy (intQ K) (by rfl) T.m_int (by decide +kernel) (pa_cons (pe_op op_fdiv (pv 6) pe_int) pa_nil)) pe_int) pa_nil)))))))))
      (pss_one (ps_ret (pv 4))))))), ?_⟩
    refine ⟨_, rfl, _, rfl, _, rfl, Nat.zero_le _, fun o no => ?_⟩
    refine ⟨_, rfl, _, rfl, by omega, by omega, for_range (lo := 0) (n := m) (fun i σ H' => ∃ (rest span : Int) (x5 x6 : Option V) (ns : List Int), σ = [some (.int c), some (.int (m : Int)), some (.int rest), some (.int span), some (.ref o), x5, x6] ∧ Same H H' ∧ H' o = some (.lst (ns.map V.int)) ∧ ns.length = i ∧ ∀ n ∈ ns, 0 ≤ n ∧ n < 1000)
      ⟨_, _, _, _, [], rfl, same_upd no, upd_same, rfl, fun n h => nomatch h⟩ (fun i σ H' hi ⟨rest, span, x5, x6, ns, hσ, hs, ho, hl, hb⟩ => ?_) (fun σ H' ⟨rest, span, x5, x6, ns, hσ, hs, ho, hl, hb⟩ => ?_)⟩
    · subst hσ
      have sz : (ns.map V.int).length < sizeLine := by
        rw [List.length_map]
        exact small1000 (by omega)
      have app : ∀ r : Int, 0 ≤ r → r < 1000 → (upd H' o (.lst (ns.map V.int ++ [V.int r]))) o = some (.lst ((ns ++ [r]).map V.int)) ∧ (ns ++ [r]).length = i + 1 ∧ ∀ n ∈ ns ++ [r], 0 ≤ n ∧ n < 1000 := fun r h0 h1 => by
        refine ⟨by rw [upd_same, List.map_append]; rfl, by rw [List.length_append, hl]; rfl, fun n hn => ?_⟩
        rcases List.mem_append.mp hn with hn | hn
        · exact hb n hn
        · rw [List.mem_singleton.mp hn]
          exact ⟨h0, h1⟩
      refine ⟨_, rfl, _, _, rfl, rfl, ⟨by decide, by decide, by decide⟩, _, _, rfl, rfl, _, rfl, ?_⟩
      have tl : ∀ (D : Ends) (rest' : Int) (x5' x6' : Option V) (r : Int), 0 ≤ r → r < 1000 → (∀ σ' H2, (∃ (rest span : Int) (x5 x6 : Option V) (ns : List Int), σ' = [some (.int c), some (.int (m : Int)), some (.int rest), some (.int span), some (.ref o), x5, x6] ∧ Same H H2 ∧ H2 o = some (.lst (ns.map V.int)) ∧ ns.length = i + 1 ∧ ∀ n ∈ ns, 0 ≤ n ∧ n < 1000) → D.nx σ' H2) → D.nx [some (.int c), some (.int (m : Int)), some (.int rest'), some (.int span), some (.ref o), x5', x6'] (upd H' o (.lst (ns.map V.int ++ [V.int r]))) := fun D rest' x5' x6' r h0 h1 k => by
        obtain ⟨a1, a2, a3⟩ := app r h0 h1
        exact k _ _ ⟨rest', span, x5', x6', _, rfl, same_mut hs no, a1, a2, a3⟩
      have m1 : ∀ z : Int, 0 ≤ z % 1000 ∧ z % 1000 < 1000 := fun z => by omega
      have m2 : ∀ z : Int, 0 ≤ z % 2147483647 ∧ z % 2147483647 < 2147483647 := fun z => by omega
      refine ite2 (fun e => ?_) (fun e => ?_)
      · refine ⟨_, rfl, _, _, rfl, rfl, _, rfl, ite2 (fun e => ?_) (fun e => ?_)⟩
        · refine ⟨_, rfl, .inl ⟨rfl, _, SqL.of ho⟩, _, rfl, .inl ⟨_, rfl, _, _, rfl, rfl, by show (0 : Int) < 1000; decide, _, _, _, rfl, rfl, ho, sz, ?_⟩⟩
          refine ⟨_, rfl, _, _, rfl, rfl, ⟨by decide, by decide⟩, ?_⟩
          obtain ⟨a1, a2, a3⟩ := app (rest % 1000) (m1 _).1 (m1 _).2
          exact ⟨_, _, _, _, _, rfl, same_mut hs no, a1, a2, a3⟩
        · refine ⟨_, rfl, _, _, rfl, rfl, .inr ⟨by decide, by decide⟩, _, rfl, _, _, rfl, rfl, .inr ⟨by decide, by decide⟩, _, _, rfl, rfl, _, _, rfl, rfl, .inl ⟨_, rfl, _, _, rfl, rfl, by show (0 : Int) < 2147483647; decide, ?_⟩⟩
          refine ⟨_, rfl, _, rfl, _, _, rfl, rfl, .inl ?_, _, rfl, _, _, rfl, rfl, .inl ⟨by decide, by decide⟩, _, _, rfl, rfl, _, _, rfl, rfl, .inl ⟨_, rfl, _, _, rfl, rfl, by show (0 : Int) < 2147483629; decide, ?_⟩⟩
          · have h := m2 (span * 48271 + (0 + (i : Int)) * 69621 + 11)
            omega
          refine ⟨_, rfl, .inl ⟨rfl, _, SqL.of ho⟩, _, rfl, _, _, rfl, rfl, ⟨by decide, by decide⟩, .inl ⟨_, rfl, _, _, rfl, rfl, by show (0 : Int) < 1000; decide, _, _, _, rfl, rfl, ho, sz, ?_⟩⟩
          obtain ⟨a1, a2, a3⟩ := app _ (m1 _).1 (m1 _).2
          exact ⟨_, _, _, _, _, rfl, same_mut hs no, a1, a2, a3⟩
      · refine iteF ?_
        refine ⟨_, rfl, _, _, rfl, rfl, .inr ⟨by decide, by decide⟩, _, rfl, _, _, rfl, rfl, .inr ⟨by decide, by decide⟩, _, _, rfl, rfl, _, _, rfl, rfl, .inl ⟨_, rfl, _, _, rfl, rfl, by show (0 : Int) < 2147483647; decide, ?_⟩⟩
        refine ⟨_, rfl, _, rfl, _, _, rfl, rfl, .inl ?_, _, rfl, _, _, rfl, rfl, .inl ⟨by decide, by decide⟩, _, _, rfl, rfl, _, _, rfl, rfl, .inl ⟨_, rfl, _, _, rfl, rfl, by show (0 : Int) < 2147483629; decide, ?_⟩⟩
        · have h := m2 (span * 48271 + (0 + (i : Int)) * 69621 + 11)
          omega
        refine ⟨_, rfl, .inl ⟨rfl, _, SqL.of ho⟩, _, rfl, _, _, rfl, rfl, ⟨by decide, by decide⟩, .inl ⟨_, rfl, _, _, rfl, rfl, by show (0 : Int) < 1000; decide, _, _, _, rfl, rfl, ho, sz, ?_⟩⟩
        obtain ⟨a1, a2, a3⟩ := app _ (m1 _).1 (m1 _).2
        exact ⟨_, _, _, _, _, rfl, same_mut hs no, a1, a2, a3⟩
    · subst hσ
      exact ⟨_, rfl, q _ _ ns hs no ho hl hb⟩
def spLawState (K : PySem.W.Frag) : Sp := fun vs H Q _ => ∃ (l : Addr) (ns : List Int), vs = [.ref l] ∧ SqL K H l (ns.map V.int) ∧ ∀ H' p a, Same H H' → Dw H' p a 0 → Q (.ref p) H'
theorem okLawState (T : Txt K mg fa fd) : FnOk P w K mg base CX0 2 (fa 50) (fd 50) ["script"] (spLawState K) := by
  refine T.F__law_state.ok scLawState (fun vs H Q E h => ?_) (fun cdv A outer s H vs Q E hr h => ?_)
  · obtain ⟨l, ns, rfl, hS, q⟩ := h
    rfl
  · obtain ⟨l, ns, rfl, hS, q⟩ := h
    refine ⟨_, (pss_cons (ps_set (i := 1) scLawState.nd rfl (Or.inl rfl) (pe_lst pa_nil))
      (pss_cons (ps_for PassesOwn.never rfl (pi_range1 (by rfl) T.m_range (pa_cons pe_int pa_nil)) (pg_name (i := 2) scLawState.nd rfl (Or.inl rfl))
      (pss_one (ps_set (i := 1) scLawState.nd rfl (Or.inl rfl) (pe_op op_cat (pv 1) (pe_call (sp := spLawNumbers K) (okLawNumbers T) hr (by rfl) T.G__law_numbers T.F__law_numbers.kp T.B__law_numbers .nil pass0 (pa_cons (pe_op op_add (pe_callB (absQ K) (by rfl) T.m_abs (by decide +kernel) (pa_cons (pe_call (sp := spLawCell K) (okLawCell T) hr (by rfl) T.G__law_cell T.F__law_cell.kp T.B__law_cell .nil pass0 (pa_cons (pv 0) (pa_cons (pv 2) pa_nil))) pa_nil)) (pe_op op_mul pe_int (pv 2))) (pa_cons pe_int pa_nil)))))))
      (pss_one (ps_ret (pe_lst (pa_cons (pv 1) (pa_cons pe_int pa_nil))))))), ?_⟩
    refine ⟨Nat.zero_le _, fun o no => ?_⟩
    refine ⟨3, rfl, by decide, by decide, for_range (lo := 0) (n := 3) (fun i σ H' => ∃ (o : Addr) (x2 : Option V) (ms : List Int), σ = [some (.ref l), some (.ref o), x2] ∧ Same H H' ∧ H' o = some (.lst (ms.map V.int)) ∧ ms.length = 40 * i ∧ ∀ n ∈ ms, 0 ≤ n ∧ n < 1000)
      ⟨o, none, [], rfl, same_upd no, upd_same, rfl, fun n h => nomatch h⟩ (fun i σ H' hi ⟨o, x2, ms, hσ, hs, ho, hl, hb⟩ => ?_) (fun σ H' ⟨o, x2, ms, hσ, hs, ho, hl, hb⟩ => ?_)⟩
    · subst hσ
      refine ⟨_, rfl, _, rfl, _, rfl, l, ns, i, ?_, hs.seq hS, fun v => ⟨_, rfl, _, rfl, _, _, rfl, rfl, .inl ⟨by decide, by decide⟩, _, _, rfl, rfl, _, 40, rfl, by decide, fun H2 u ks s2 nu hu kl kb => ?_⟩⟩
      · exact congrArg (fun t : Int => [V.ref l, V.int t]) (Int.zero_add _)
      refine ⟨_, _, _, _, rfl, rfl, s2 _ _ ho, hu, ?_, fun w nw => ?_⟩
      · rw [List.length_map, List.length_map]
        exact small200 (by omega)
      refine ⟨w, _, ms ++ ks, rfl, (hs.trans s2).trans (same_upd nw), ?_, ?_, fun n hn => ?_⟩
      · rw [upd_same, List.map_append]
      · rw [List.length_append]
        omega
      · rcases List.mem_append.mp hn with hn | hn
        · exact hb n hn
        · exact kb n hn
    · subst hσ
      refine ⟨_, rfl, by show 2 ≤ sizeLine; decide, fun p np => ?_⟩
      refine q _ p o (hs.trans (same_upd np)) ⟨0, ms, Nat.le_refl 0, ne_of_none ho np, upd_same, ?_, hl, hb⟩
      rw [upd_ne (ne_of_none ho np)]
      exact ho
def spLawNext (_ : PySem.W.Frag) : Sp := fun vs H Q _ => ∃ (p a : Addr) (many : Int) (N : Nat), vs = [.ref p, .int many] ∧ Dw H p a N ∧ N < 1000000000 ∧ 0 < many ∧
  ∀ r H', 0 ≤ r → r < many → Dw H' p a (N + 1) → (∀ b, b ≠ p → H' b = H b) → Q (.int r) H'
theorem uLawNext {K : PySem.W.Frag} {H : Hp} {Q : VK} {E : XK} {vs : List V} {p a : Addr} {N : Nat} {many : Int} (e : vs = [.ref p, .int many]) (d : Dw H p a N) (hN : N < 1000000000) (hm : 0 < many) (q : ∀ r H', 0 ≤ r → r < many → Dw H' p a (N + 1) → Kp p H H' → Q (.int r) H') : spLawNext K vs H Q E :=
  ⟨p, a, many, N, e, d, hN, hm, fun r H' h0 h1 d' f => q r H' h0 h1 d' (frm_kp f)⟩
theorem okLawNext (T : Txt K mg fa fd) : FnOk P w K mg base CX0 1 (fa 51) (fd 51) ["state", "many"] (spLawNext K) := by
  refine T.F__law_next.ok scLawNext (fun vs H Q E h => ?_) (fun cdv A outer s H vs Q E hr h => ?_)
  · obtain ⟨p, a, many, N, rfl, ⟨m, ns, hm, hap, hp, ha, hl, hb⟩, hN, hmany, q⟩ := h
    rfl
  · obtain ⟨p, a, many, N, rfl, ⟨m, ns, hm, hap, hp, ha, hl, hb⟩, hN, hmany, q⟩ := h
    refine ⟨_, (pss_cons (ps_asg (pe_op op_add (pe_ix (ixL K) (pv 0) pe_int (fun _ _ => rfl)) pe_int) (pg_sub (pv 0) pe_int set_list))
      (pss_cons (ps_set (i := 2) scLawNext.nd rfl (Or.inl rfl) (pe_op op_add (pe_ix (ixL K) (pe_ix (ixL K) (pv 0) pe_int (fun _ _ => rfl)) (pe_op op_mod (pe_callTy (intQ K) (by rfl) T.m_int (by decide +kernel) (pa_cons (pe_op op_mul (pe_ix (ixL K) (pv 0) pe_int (fun _ _ => rfl)) pe_int) pa_nil)) (pe_callB (lenQ K) (by rfl) T.m_len (by decide +kernel) (pa_cons (pe_ix (ixL K) (pv 0) pe_int (fun _ _ => rfl)) pa_nil))) (fun _ _ => rfl)) (pe_op op_mul (pe_op op_mul pe_int (pe_ix (ixL K) (pv 0) pe_int (fun _ _ => rfl))) (pe_op op_add pe_int (pe_op op_fdiv (pe_ix (ixL K) (pv 0) pe_int (fun _ _ => rfl)) (pe_callB (lenQ K) (by rfl) T.m_len (by decide +kernel) (pa_cons (pe_ix (ixL K) (pv 0) pe_int (fun _ _ => rfl)) pa_nil)))))))
      (pss_one (ps_ret (pe_op op_mod (pe_callTy (intQ K) (by rfl) T.m_int (by decide +kernel) (pa_cons (pv 2) pa_nil)) (pv 1)))))), ?_⟩
    have eS : SqL K H p [.ref a, .int (m : Int)] := SqL.of hp
    refine ⟨_, rfl, _, _, _, _, rfl, rfl, eS, atI_nat (j := 1) rfl, _, _, rfl, rfl, _, rfl, _, _, _, 1, rfl, rfl, hp, rfl, ?_⟩
    have h1p : (upd H p (.lst [.ref a, .int ((m : Int) + 1)])) p = some (.lst [.ref a, .int ((m : Int) + 1)]) := upd_same
    have h1a : (upd H p (.lst [.ref a, .int ((m : Int) + 1)])) a = some (.lst (ns.map V.int)) := by
      rw [upd_ne hap]
      exact ha
    have fr : ∀ b, b ≠ p → (upd H p (.lst [.ref a, .int ((m : Int) + 1)])) b = H b := fun b hb => upd_ne hb
    show tSeq _ _ _ _ (upd H p (.lst [.ref a, .int ((m : Int) + 1)]))
    generalize upd H p (.lst [.ref a, .int ((m : Int) + 1)]) = H1 at h1p h1a fr
    have S1 : SqL K H1 p [.ref a, .int ((m : Int) + 1)] := SqL.of h1p
    have A1 : SqL K H1 a (ns.map V.int) := SqL.of h1a
    have hl2 : ((ns.map V.int).length : Int) = 120 := by
      rw [List.length_map, hl]
      rfl
    obtain ⟨x, hx, ex⟩ := at_int (ns := ns) (r := ((m : Int) + 1) * 7 % 120) (by omega) (by omega)
    refine ⟨_, rfl, _, _, _, _, rfl, rfl, S1, atI_nat (j := 0) rfl, _, rfl, _, _, _, _, rfl, rfl, S1, atI_nat (j := 1) rfl, _, _, rfl, rfl, .inr ⟨by decide, by decide⟩, .inl ⟨_, rfl, _, rfl, _, _, _, _, rfl, rfl, S1, atI_nat (j := 0) rfl, _, _, rfl, .inl A1, ?_⟩⟩
    rw [hl2]
    refine ⟨_, _, rfl, rfl, by show (0 : Int) < 120; decide, _, _, _, _, rfl, rfl, A1, ex, ?_⟩
    refine ⟨_, rfl, _, _, _, _, rfl, rfl, S1, atI_nat (j := 1) rfl, _, _, rfl, rfl, .inl ⟨by decide, by decide⟩, _, rfl, _, _, _, _, rfl, rfl, S1, atI_nat (j := 1) rfl, _, rfl, _, _, _, _, rfl, rfl, S1, atI_nat (j := 0) rfl, _, _, rfl, .inl A1, ?_⟩
    rw [hl2]
    refine ⟨_, _, rfl, rfl, ⟨by decide, by decide⟩, _, _, rfl, rfl, _, _, rfl, rfl, .inl ⟨by omega, by omega⟩, _, _, rfl, rfl, ?_⟩
    refine ⟨_, rfl, .inl ⟨_, rfl, _, rfl, _, _, rfl, rfl, hmany, ?_⟩⟩
    exact q _ _ (Int.emod_nonneg _ (by omega)) (Int.emod_lt_of_pos _ hmany) ⟨m + 1, ns, by omega, hap, h1p, h1a, hl, hb⟩ fr
def spLawRoot (_ : PySem.W.Frag) : Sp := fun vs H Q _ => ∃ n : Int, vs = [.int n] ∧ 0 ≤ n ∧ n < 2 ^ 60 ∧ Q (.int (rootI n)) H
theorem okLawRoot (T : Txt K mg fa fd) : FnOk P w K mg base CX0 1 (fa 52) (fd 52) ["n"] (spLawRoot K) := by
  refine T.F__law_root.ok scLawRoot (fun vs H Q E h => ?_) (fun cdv A outer s H vs Q E hr h => ?_)
  · obtain ⟨n, rfl, h0, h1, q⟩ := h
    rfl
  · obtain ⟨n, rfl, h0, h1, q⟩ := h
    refine ⟨_, (pss_cons (ps_set (i := 1) scLawRoot.nd rfl (Or.inl rfl) pe_int)
      (pss_cons (ps_set (i := 2) scLawRoot.nd rfl (Or.inl rfl) (pe_op op_add (pv 0) pe_int))
      (pss_cons (ps_for PassesOwn.never rfl (pi_range1 (by rfl) T.m_range (pa_cons pe_int pa_nil)) (pg_name (i := 3) scLawRoot.nd rfl (Or.inl rfl))
      (pss_cons (ps_if (pt_cmp (pc_le (pe_op op_sub (pv 2) (pv 1)) pe_int))
        (pss_one (ps_ret (pv 1)))
        pss_nil)
        (pss_cons (ps_set (i := 4) scLawRoot.nd rfl (Or.inl rfl) (pe_op op_fdiv (pe_op op_add (pv 1) (pv 2)) pe_int))
        (pss_one (ps_if (pt_cmp (pc_le (pe_op op_mul (pv 4) (pv 4)) (pv 0)))
        (pss_one (ps_set (i := 1) scLawRoot.nd rfl (Or.inl rfl) (pv 4)))
        (pss_one (ps_set (i := 2) scLawRoot.nd rfl (Or.inl rfl) (pv 4))))))))
      (pss_one (ps_ret (pv 1)))))), ?_⟩
    have h1' : n < 1152921504606846976 := h1
    refine ⟨_, rfl, _, _, rfl, rfl, 2000, rfl, by decide, by decide, ?_⟩
    refine for_range (lo := 0) (n := 2000) (fun i σ H' => ∃ (low high : Int) (x3 x4 : Option V), σ = [some (.int n), some (.int low), some (.int high), x3, x4] ∧ H' = H ∧ 0 ≤ low ∧ low < high ∧ high ≤ n + 1 ∧ low * low ≤ n ∧ n < high * high ∧ (high - low - 1) * 2 ^ i ≤ n)
      ⟨0, n + 1, none, none, rfl, rfl, by omega, by omega, by omega, by omega, ?_, by simp⟩ (fun i σ H' hi ⟨low, high, x3, x4, hσ, e, z0, z1, z2, z3, z4, z5⟩ => ?_) (fun σ H' ⟨low, high, x3, x4, hσ, e, z0, z1, z2, z3, z4, z5⟩ => ?_)
    · have a : (n + 1) * 1 ≤ (n + 1) * (n + 1) := Int.mul_le_mul_of_nonneg_left (by omega) (by omega)
      omega
    · subst hσ e
      refine ⟨_, rfl, _, rfl, _, _, rfl, rfl, _, _, rfl, rfl, _, rfl, way2 (fun h => ?_) (fun h => ?_)⟩
      · have eh : high = low + 1 := by omega
        subst eh
        refine ⟨_, rfl, ?_⟩
        rw [← rootI_uniq h0 z0 z3 z4] at q
        exact q
      · obtain ⟨k1, k2, k3, k4⟩ := half_step (by omega) z5
        refine ⟨_, rfl, _, rfl, _, _, rfl, rfl, _, _, rfl, rfl, ⟨by decide, by decide⟩, ?_⟩
        refine ⟨_, rfl, _, rfl, _, _, rfl, rfl, .inl ⟨by omega, by omega⟩, _, rfl, _, _, rfl, rfl, _, rfl, way2 (fun h => ?_) (fun h => ?_)⟩
        · exact ⟨_, rfl, (low + high) / 2, high, _, _, rfl, rfl, by omega, k4, z2, h, z4, k2⟩
        · exact ⟨_, rfl, low, (low + high) / 2, _, _, rfl, rfl, z0, k3, by omega, z3, by omega, k1⟩
    · subst hσ e
      have eh : high = low + 1 := by
        by_cases z : high - low - 1 ≤ 0
        · omega
        · have p0 : (2 : Int) ^ 60 ≤ 2 ^ 2000 := by
            have e1 : ((2 ^ 60 : Nat) : Int) = 2 ^ 60 := Int.natCast_pow 2 60
            have e2 : ((2 ^ 2000 : Nat) : Int) = 2 ^ 2000 := Int.natCast_pow 2 2000
            have e3 := Nat.pow_le_pow_right (n := 2) (by decide) (show 60 ≤ 2000 by decide)
            omega
          have a : 1 * 2 ^ 2000 ≤ (high - low - 1) * 2 ^ 2000 := Int.mul_le_mul_of_nonneg_right (by omega) (Int.le_trans (by decide) p0)
          omega
      subst eh
      refine ⟨_, rfl, ?_⟩
      rw [← rootI_uniq h0 z0 z3 z4] at q
      exact q
def spLawMul (K : PySem.W.Frag) : Sp := fun vs H Q _ => ∃ (am an : Addr) (p q r s p2 q2 r2 s2 : Int) (N : Nat), vs = [.ref am, .ref an] ∧ SqT K H am [.int p, .int q, .int r, .int s] ∧ SqT K H an [.int p2, .int q2, .int r2, .int s2] ∧ Bd N p ∧ Bd N q ∧ Bd N r ∧ Bd N s ∧ Bd N p2 ∧ Bd N q2 ∧ Bd N r2 ∧ Bd N s2 ∧ N ≤ 400000 ∧ (R.Nw H [.int (p * p2 + q * r2), .int (p * q2 + q * s2), .int (r * p2 + s * r2), .int (r * q2 + s * s2)] Q)
theorem uLawMul {K : PySem.W.Frag} {H : Hp} {Q : VK} {E : XK} {vs : List V} {am an : Addr} {p q r s p2 q2 r2 s2 : Int} {n0 n1 n2 n3 n4 n5 n6 n7 : Nat} (hev : vs = [.ref am, .ref an]) (s0 : SqT K H am [.int p, .int q, .int r, .int s]) (s1 : SqT K H an [.int p2, .int q2, .int r2, .int s2]) (b0 : Bd n0 p) (b1 : Bd n1 q) (b2 : Bd n2 r) (b3 : Bd n3 s) (b4 : Bd n4 p2) (b5 : Bd n5 q2) (b6 : Bd n6 r2) (b7 : Bd n7 s2) (hll : (n0 + n1 + n2 + n3 + n4 + n5 + n6 + n7 ≤ 400000) = True) (kk : R.Nw H [.int (p * p2 + q * r2), .int (p * q2 + q * s2), .int (r * p2 + s * r2), .int (r * q2 + s * s2)] Q) : spLawMul K vs H Q E :=
  have hll := of_eq_true hll
  ⟨am, an, p, q, r, s, p2, q2, r2, s2, n0 + n1 + n2 + n3 + n4 + n5 + n6 + n7, hev, s0, s1, b0.mono (by omega), b1.mono (by omega), b2.mono (by omega), b3.mono (by omega), b4.mono (by omega), b5.mono (by omega), b6.mono (by omega), b7.mono (by omega), hll, kk⟩
theorem okLawMul (T : Txt K mg fa fd) : FnOk P w K mg base CX0 1 (fa 53) (fd 53) ["m", "n"] (spLawMul K) := by
  refine T.F__law_mul.ok scLawMul (fun vs H Q E h => ?_) (fun cdv A outer s H vs Q E hr h => ?_)
  · obtain ⟨am, an, p, q, r, s, p2, q2, r2, s2, N, rfl, h_am, h_an, b_p, b_q, b_r, b_s, b_p2, b_q2, b_r2, b_s2, hN, kk⟩ := h
    rfl
  · obtain ⟨am, an, p, q, r, s, p2, q2, r2, s2, N, rfl, h_am, h_an, b_p, b_q, b_r, b_s, b_p2, b_q2, b_r2, b_s2, hN, kk⟩ := h
    refine ⟨_, (pss_cons (ps_set (i := 2) scLawMul.nd rfl (Or.inl rfl) (pe_lst (pa_cons (pe_op op_add (pe_op op_mulW (pe_ix (ixT K) (pv 0) pe_int (fun _ _ => rfl)) (pe_ix (ixT K) (pv 1) pe_int (fun _ _ => rfl))) (pe_op op_mulW (pe_ix (ixT K) (pv 0) pe_int (fun _ _ => rfl)) (pe_ix (ixT K) (pv 1) pe_int (fun _ _ => rfl)))) (pa_cons (pe_op op_add (pe_op op_mulW (pe_ix (ixT K) (pv 0) pe_int (fun _ _ => rfl)) (pe_ix (ixT K) (pv 1) pe_int (fun _ _ => rfl))) (pe_op op_mulW (pe_ix (ixT K) (pv 0) pe_int (fun _ _ => rfl)) (pe_ix (ixT K) (pv 1) pe_int (fun _ _ => rfl)))) pa_nil))))
      (pss_one (ps_ret (pe_callTy (tupQ K) (by rfl) T.m_tuple (by decide +kernel) (pa_cons (pe_op op_cat (pv 2) (pe_lst (pa_cons (pe_op op_add (pe_op op_mulW (pe_ix (ixT K) (pv 0) pe_int (fun _ _ => rfl)) (pe_ix (ixT K) (pv 1) pe_int (fun _ _ => rfl))) (pe_op op_mulW (pe_ix (ixT K) (pv 0) pe_int (fun _ _ => rfl)) (pe_ix (ixT K) (pv 1) pe_int (fun _ _ => rfl)))) (pa_cons (pe_op op_add (pe_op op_mulW (pe_ix (ixT K) (pv 0) pe_int (fun _ _ => rfl)) (pe_ix (ixT K) (pv 1) pe_int (fun _ _ => rfl))) (pe_op op_mulW (pe_ix (ixT K) (pv 0) pe_int (fun _ _ => rfl)) (pe_ix (ixT K) (pv 1) pe_int (fun _ _ => rfl)))) pa_nil)))) pa_nil))))), ?_⟩
    clean_wf
    all_goals first | omega | exact kk | (refine kk _ _ ?_ (by assumption); (repeat' (first | with_reducible exact Same.refl _ | with_reducible assumption | ((with_reducible apply sameB); with_reducible assumption))))
def spLawWorth (K : PySem.W.Frag) : Sp := fun vs H Q _ => ∃ (aform : Addr) (a b c x y : Int) (N : Nat), vs = [.ref aform, .int x, .int y] ∧ SqT K H aform [.int a, .int b, .int c] ∧ Bd N a ∧ Bd N b ∧ Bd N c ∧ Bd N x ∧ Bd N y ∧ N ≤ 300000 ∧ (Q (.int (a * x * x + b * x * y + c * y * y)) H)
theorem uLawWorth {K : PySem.W.Frag} {H : Hp} {Q : VK} {E : XK} {vs : List V} {aform : Addr} {a b c x y : Int} {n0 n1 n2 n3 n4 : Nat} (hev : vs = [.ref aform, .int x, .int y]) (s0 : SqT K H aform [.int a, .int b, .int c]) (b0 : Bd n0 a) (b1 : Bd n1 b) (b2 : Bd n2 c) (b3 : Bd n3 x) (b4 : Bd n4 y) (hll : (n0 + n1 + n2 + n3 + n4 ≤ 300000) = True) (kk : Q (.int (a * x * x + b * x * y + c * y * y)) H) : spLawWorth K vs H Q E :=
  have hll := of_eq_true hll
  ⟨aform, a, b, c, x, y, n0 + n1 + n2 + n3 + n4, hev, s0, b0.mono (by omega), b1.mono (by omega), b2.mono (by omega), b3.mono (by omega), b4.mono (by omega), hll, kk⟩
theorem okLawWorth (T : Txt K mg fa fd) : FnOk P w K mg base CX0 1 (fa 54) (fd 54) ["form", "x", "y"] (spLawWorth K) := by
  refine T.F__law_worth.ok scLawWorth (fun vs H Q E h => ?_) (fun cdv A outer s H vs Q E hr h => ?_)
  · obtain ⟨aform, a, b, c, x, y, N, rfl, h_aform, b_a, b_b, b_c, b_x, b_y, hN, kk⟩ := h
    rfl
  · obtain ⟨aform, a, b, c, x, y, N, rfl, h_aform, b_a, b_b, b_c, b_x, b_y, hN, kk⟩ := h
    refine ⟨_, (pss_one (ps_ret (pe_op op_add (pe_op op_add (pe_op op_mulW (pe_op op_mulW (pe_ix (ixT K) (pv 0) pe_int (fun _ _ => rfl)) (pv 1)) (pv 1)) (pe_op op_mulW (pe_op op_mulW (pe_ix (ixT K) (pv 0) pe_int (fun _ _ => rfl)) (pv 1)) (pv 2))) (pe_op op_mulW (pe_op op_mulW (pe_ix (ixT K) (pv 0) pe_int (fun _ _ => rfl)) (pv 2)) (pv 2))))), ?_⟩
    clean_wf
    all_goals first | omega | exact kk | (refine kk _ _ ?_ (by assumption); (repeat' (first | with_reducible exact Same.refl _ | with_reducible assumption | ((with_reducible apply sameB); with_reducible assumption))))
def spLawAct (K : PySem.W.Frag) : Sp := fun vs H Q _ => ∃ (af am : Addr) (a b c p q r s : Int), vs = [.ref af, .ref am] ∧ SqT K H af [.int a, .int b, .int c] ∧ SqT K H am [.int p, .int q, .int r, .int s] ∧ Bd 200 a ∧ Bd 200 b ∧ Bd 200 c ∧ Bd 74000 p ∧ Bd 74000 q ∧ Bd 74000 r ∧ Bd 74000 s ∧
  R.Nw H [.int (a * p * p + b * p * r + c * r * r), .int (2 * a * p * q + b * (p * s + q * r) + 2 * c * r * s), .int (a * q * q + b * q * s + c * s * s)] Q
theorem uLawAct {K : PySem.W.Frag} {H : Hp} {Q : VK} {E : XK} {vs : List V} {af am : Addr} {a b c p q r s : Int} {n0 n1 n2 n3 n4 n5 n6 : Nat} (hev : vs = [.ref af, .ref am]) (s0 : SqT K H af [.int a, .int b, .int c]) (s1 : SqT K H am [.int p, .int q, .int r, .int s]) (b0 : Bd n0 a) (b1 : Bd n1 b) (b2 : Bd n2 c) (b3 : Bd n3 p) (b4 : Bd n4 q) (b5 : Bd n5 r) (b6 : Bd n6 s)
    (h0 : Nat.ble n0 200 = true) (h1 : Nat.ble n1 200 = true) (h2 : Nat.ble n2 200 = true) (h3 : Nat.ble n3 74000 = true) (h4 : Nat.ble n4 74000 = true) (h5 : Nat.ble n5 74000 = true) (h6 : Nat.ble n6 74000 = true)
    (kk : R.Nw H [.int (a * p * p + b * p * r + c * r * r), .int (2 * a * p * q + b * (p * s + q * r) + 2 * c * r * s), .int (a * q * q + b * q * s + c * s * s)] Q) : spLawAct K vs H Q E :=
  ⟨af, am, a, b, c, p, q, r, s, hev, s0, s1, bdm b0 h0, bdm b1 h1, bdm b2 h2, bdm b3 h3, bdm b4 h4, bdm b5 h5, bdm b6 h6, kk⟩
theorem okLawAct (T : Txt K mg fa fd) : FnOk P w K mg base CX0 2 (fa 55) (fd 55) ["form", "m"] (spLawAct K) := by
  refine T.F__law_act.ok scLawAct (fun vs H Q E h => ?_) (fun cdv A outer s H vs Q E hr h => ?_)
  · obtain ⟨af, am, a, b, c, p, q, r, s, rfl, hs, hm, g1, g2, g3, g4, g5, g6, g7, kk⟩ := h
    rfl
  · obtain ⟨af, am, a, b, c, p, q, r, s, rfl, hs, hm, g1, g2, g3, g4, g5, g6, g7, kk⟩ := h
    refine ⟨_, (pss_cons (ps_set (i := 2) scLawAct.nd rfl (Or.inl rfl) (pe_call (sp := spLawWorth K) (okLawWorth T) hr (by rfl) T.G__law_worth T.F__law_worth.kp T.B__law_worth .nil pass0 (pa_cons (pv 0) (pa_cons (pe_ix (ixT K) (pv 1) pe_int (fun _ _ => rfl)) (pa_cons (pe_ix (ixT K) (pv 1) pe_int (fun _ _ => rfl)) pa_nil)))))
      (pss_cons (ps_set (i := 3) scLawAct.nd rfl (Or.inl rfl) (pe_call (sp := spLawWorth K) (okLawWorth T) hr (by rfl) T.G__law_worth T.F__law_worth.kp T.B__law_worth .nil pass0 (pa_cons (pv 0) (pa_cons (pe_ix (ixT K) (pv 1) pe_int (fun _ _ => rfl)) (pa_cons (pe_ix (ixT K) (pv 1) pe_int (fun _ _ => rfl)) pa_nil)))))
      (pss_one (ps_ret (pe_tup (pa_cons (pv 2) (pa_cons (pe_op op_sub (pe_op op_sub (pe_call (sp := spLawWorth K) (okLawWorth T) hr (by rfl) T.G__law_worth T.F__law_worth.kp T.B__law_worth .nil pass0 (pa_cons (pv 0) (pa_cons (pe_op op_add (pe_ix (ixT K) (pv 1) pe_int (fun _ _ => rfl)) (pe_ix (ixT K) (pv 1) pe_int (fun _ _ => rfl))) (pa_cons (pe_op op_add (pe_ix (ixT K) (pv 1) pe_int (fun _ _ => rfl)) (pe_ix (ixT K) (pv 1) pe_int (fun _ _ => rfl))) pa_nil)))) (pv 2)) (pv 3)) (pa_cons (pv 3) pa_nil)))))))), ?_⟩
    rw [← act_mid] at kk
    clean_wf
    all_goals first | omega | exact kk | (refine kk _ _ ?_ (by assumption); (repeat' (first | with_reducible exact Same.refl _ | with_reducible assumption | ((with_reducible apply sameB); with_reducible assumption))))
def Lc4 (i : Nat) (m1 m2 m3 m4 : Int) : Prop := m1 * m4 - m2 * m3 = 1 ∧ m1.natAbs ≤ 3 ^ i ∧ m2.natAbs ≤ 3 ^ i ∧ m3.natAbs ≤ 3 ^ i ∧ m4.natAbs ≤ 3 ^ i
def spLawChange (K : PySem.W.Frag) : Sp := fun vs H Q _ => ∃ (p a : Addr) (N : Nat) (many : Int), vs = [.ref p, .int many] ∧ Dw H p a N ∧ N < 100000 ∧ 0 ≤ many ∧ many ≤ 10 ∧
  ∀ H' t m1 m2 m3 m4, Dw H' p a (N + 31) → Kp p H H' → SqT K H' t [.int m1, .int m2, .int m3, .int m4] → Lc4 many.toNat m1 m2 m3 m4 → Q (.ref t) H'
theorem uLawChange {K : PySem.W.Frag} {H : Hp} {Q : VK} {E : XK} {vs : List V} {p a : Addr} {N : Nat} {many : Int} (e : vs = [.ref p, .int many]) (d : Dw H p a N) (hN : N < 100000) (h0 : 0 ≤ many) (h1 : many ≤ 10)
    (kk : ∀ H' t m1 m2 m3 m4, Dw H' p a (N + 31) → Kp p H H' → SqT K H' t [.int m1, .int m2, .int m3, .int m4] → Lc4 many.toNat m1 m2 m3 m4 → Q (.ref t) H') : spLawChange K vs H Q E := ⟨p, a, N, many, e, d, hN, h0, h1, kk⟩
theorem Lc4.mono {i j : Nat} {m1 m2 m3 m4 : Int} (h : Lc4 i m1 m2 m3 m4) (l : i ≤ j) : Lc4 j m1 m2 m3 m4 := by
  have e : 3 ^ i ≤ 3 ^ j := Nat.pow_le_pow_right (by decide) l
  obtain ⟨h1, h2, h3, h4, h5⟩ := h
  exact ⟨h1, Nat.le_trans h2 e, Nat.le_trans h3 e, Nat.le_trans h4 e, Nat.le_trans h5 e⟩
theorem Lc4.bd {i : Nat} {m1 m2 m3 m4 : Int} (h : Lc4 i m1 m2 m3 m4) (l : i ≤ 10) : Bd 16 m1 ∧ Bd 16 m2 ∧ Bd 16 m3 ∧ Bd 16 m4 := by
  obtain ⟨h1, h2, h3, h4, h5⟩ := h.mono l
  exact ⟨Bd.of h2 (by decide), Bd.of h3 (by decide), Bd.of h4 (by decide), Bd.of h5 (by decide)⟩
theorem two3 {i : Nat} {m x t : Int} (h1 : m.natAbs ≤ 3 ^ i) (h2 : x.natAbs ≤ 3 ^ i) (t1 : -2 ≤ t) (t2 : t ≤ 2) : (m * t + x).natAbs ≤ 3 ^ (i + 1) := by
  have e : (m * t).natAbs ≤ 3 ^ i * 2 := by
    rw [Int.natAbs_mul]
    exact Nat.mul_le_mul h1 (by omega)
  rw [Nat.pow_succ]
  omega
theorem Lc4.s1 {i : Nat} {m1 m2 m3 m4 t : Int} (h : Lc4 i m1 m2 m3 m4) (t1 : -2 ≤ t) (t2 : t ≤ 2) : Lc4 (i + 1) (m1 * 1 + m2 * 0) (m1 * t + m2 * 1) (m3 * 1 + m4 * 0) (m3 * t + m4 * 1) := by
  have k := h.mono (Nat.le_succ i)
  obtain ⟨h1, h2, h3, h4, h5⟩ := h
  obtain ⟨k1, k2, k3, k4, k5⟩ := k
  rw [Int.mul_one, Int.mul_one, Int.mul_one, Int.mul_one, Int.mul_zero, Int.mul_zero, Int.add_zero, Int.add_zero]
  refine ⟨?_, k2, two3 h2 h3 t1 t2, k4, two3 h4 h5 t1 t2⟩
  grind
theorem Lc4.s2 {i : Nat} {m1 m2 m3 m4 t : Int} (h : Lc4 i m1 m2 m3 m4) (t1 : -2 ≤ t) (t2 : t ≤ 2) : Lc4 (i + 1) (m1 * 1 + m2 * t) (m1 * 0 + m2 * 1) (m3 * 1 + m4 * t) (m3 * 0 + m4 * 1) := by
  have k := h.mono (Nat.le_succ i)
  obtain ⟨h1, h2, h3, h4, h5⟩ := h
  obtain ⟨k1, k2, k3, k4, k5⟩ := k
  rw [Int.mul_one, Int.mul_one, Int.mul_one, Int.mul_one, Int.mul_zero, Int.mul_zero, Int.zero_add, Int.zero_add, Int.add_comm m1, Int.add_comm m3]
  refine ⟨?_, two3 h3 h2 t1 t2, k3, two3 h5 h4 t1 t2, k5⟩
  grind
theorem Lc4.s3 {i : Nat} {m1 m2 m3 m4 : Int} (h : Lc4 i m1 m2 m3 m4) : Lc4 (i + 1) (m1 * 0 + m2 * 1) (m1 * (-1) + m2 * 0) (m3 * 0 + m4 * 1) (m3 * (-1) + m4 * 0) := by
  have k := h.mono (Nat.le_succ i)
  obtain ⟨h1, h2, h3, h4, h5⟩ := h
  obtain ⟨k1, k2, k3, k4, k5⟩ := k
  refine ⟨by grind, by omega, by omega, by omega, by omega⟩
theorem okLawChange (T : Txt K mg fa fd) : FnOk P w K mg base CX0 2 (fa 56) (fd 56) ["state", "many"] (spLawChange K) := by
  refine T.F__law_change.ok scLawChange (fun vs H Q E h => ?_) (fun cdv A outer s H vs Q E hr h => ?_)
  · obtain ⟨p, a, N, many, rfl, d, hN, h0, h10, kk⟩ := h
    rfl
  · obtain ⟨p, a, N, many, rfl, d, hN, h0, h10, kk⟩ := h
    refine ⟨_, (pss_cons (ps_set (i := 2) scLawChange.nd rfl (Or.inl rfl) (pe_tup (pa_cons pe_int (pa_cons pe_int (pa_cons pe_int (pa_cons pe_int pa_nil))))))
      (pss_cons (ps_for PassesOwn.never rfl (pi_range1 (by rfl) T.m_range (pa_cons (pe_call (sp := spLawNext K) (okLawNext T) hr (by rfl) T.G__law_next T.F__law_next.kp T.B__law_next .nil pass0 (pa_cons (pv 0) (pa_cons (pe_op op_add (pv 1) pe_int) pa_nil))) pa_nil)) (pg_name (i := 3) scLawChange.nd rfl (Or.inl rfl))
      (pss_cons (ps_set (i := 4) scLawChange.nd rfl (Or.inl rfl) (pe_op op_sub (pe_call (sp := spLawNext K) (okLawNext T) hr (by rfl) T.G__law_next T.F__law_next.kp T.B__law_next .nil pass0 (pa_cons (pv 0) (pa_cons pe_int pa_nil))) pe_int))
        (pss_one (ps_set (i := 2) scLawChange.nd rfl (Or.inl rfl) (pe_call (sp := spLawMul K) (okLawMul T) hr (by rfl) T.G__law_mul T.F__law_mul.kp T.B__law_mul .nil pass0 (pa_cons (pv 2) (pa_cons (pe_ix (ixL K) (pe_lst (pa_cons (pe_tup (pa_cons pe_int (pa_cons (pv 4) (pa_cons pe_int (pa_cons pe_int pa_nil))))) (pa_cons (pe_tup (pa_cons pe_int (pa_cons pe_int (pa_cons (pv 4) (pa_cons pe_int pa_nil))))) (pa_cons (pe_tup (pa_cons pe_int (pa_cons (pe_un un_neg pe_int) (pa_cons pe_int (pa_cons pe_int pa_nil))))) pa_nil)))) (pe_call (sp := spLawNext K) (okLawNext T) hr (by rfl) T.G__law_next T.F__law_next.kp T.B__law_next .nil pass0 (pa_cons (pv 0) (pa_cons pe_int pa_nil))) (fun _ _ => rfl)) pa_nil)))))))
      (pss_one (ps_ret (pv 2))))), ?_⟩
    clean_wf
    intro r1 H1 r1a r1b d1 k1
    clean_wf
    refine R.forN (lo := 0) (n := r1.toNat) (fun i σ H' => ∃ (b : Addr) (m1 m2 m3 m4 : Int) (x3 x4 : Option V), σ = [some (.ref p), some (.int many), some (.ref b), x3, x4] ∧ Dw H' p a (N + 1 + 2 * i) ∧ Kp p H1 H' ∧ SqT K H' b [.int m1, .int m2, .int m3, .int m4] ∧ Lc4 i m1 m2 m3 m4)
      ?_ (fun i σ H2 hi hPv => ?_) (fun σ H2 hPv => ?_)
    · exact ⟨_, 1, 0, 0, 1, _, _, rfl, d1, Kp.refl, by clean_wf, by decide, by decide, by decide, by decide, by decide⟩
    · obtain ⟨b, m1, m2, m3, m4, x3, x4, rfl, d2, k2, s2, l2⟩ := hPv
      have bd := l2.bd (by omega)
      obtain ⟨b1, b2, b3, b4⟩ := bd
      clean_wf
      intro r2 H3 r2a r2b d3 k3
      clean_wf
      intro r3 H4 r3a r3b d4 k4
      have key : ∀ {σ : L2.St} {t1 t2 t3 t4 : Int} {H5 : Hp} {c : Addr}, σ = [some (.ref p), some (.int many), some (.ref c), some (.int (0 + ↑i)), some (.int (r2 - 2))] → Dw H5 p a (N + 1 + 2 * i + 1 + 1) → Kp p H4 H5 →
          SqT K H5 c [.int (m1 * t1 + m2 * t3), .int (m1 * t2 + m2 * t4), .int (m3 * t1 + m4 * t3), .int (m3 * t2 + m4 * t4)] → Lc4 (i + 1) (m1 * t1 + m2 * t3) (m1 * t2 + m2 * t4) (m3 * t1 + m4 * t3) (m3 * t2 + m4 * t4) →
          ∃ (b : Addr) (m1 m2 m3 m4 : Int) (x3 x4 : Option V), σ = [some (.ref p), some (.int many), some (.ref b), x3, x4] ∧ Dw H5 p a (N + 1 + 2 * (i + 1)) ∧ Kp p H1 H5 ∧ SqT K H5 b [.int m1, .int m2, .int m3, .int m4] ∧ Lc4 (i + 1) m1 m2 m3 m4 :=
        fun e d5 k5 s5 l5 => ⟨_, _, _, _, _, _, _, e, d5, by sizeOf_list_dec, s5, l5⟩
      obtain rfl | rfl | rfl : r3 = 0 ∨ r3 = 1 ∨ r3 = 2 := by omega
      · skip
        clean_wf
        refine key (t1 := 1) (t2 := r2 - 2) (t3 := 0) (t4 := 1) rfl ?_ ?_ ?_ ?_
        · skip
          clean_wf
        · sizeOf_list_dec
        · skip
          clean_wf
        · exact l2.s1 (by omega) (by omega)
      · skip
        clean_wf
        refine key (t1 := 1) (t2 := 0) (t3 := r2 - 2) (t4 := 1) rfl ?_ ?_ ?_ ?_
        · skip
          clean_wf
        · sizeOf_list_dec
        · skip
          clean_wf
        · exact l2.s2 (by omega) (by omega)
      · skip
        clean_wf
        refine key (t1 := 0) (t2 := -1) (t3 := 1) (t4 := 0) rfl ?_ ?_ ?_ ?_
        · skip
          clean_wf
        · sizeOf_list_dec
        · skip
          clean_wf
        · exact l2.s3
    · obtain ⟨b, m1, m2, m3, m4, x3, x4, rfl, d2, k2, s2, l2⟩ := hPv
      clean_wf
      exact kk _ _ _ _ _ _ (d2.mono (by omega)) (by sizeOf_list_dec) s2 (l2.mono (by omega))
def spLawSquare (_ : PySem.W.Frag) : Sp := fun vs H Q _ => ∃ n : Int, vs = [.int n] ∧ 0 ≤ n ∧ n < 1000000000 ∧ Q (.bl (decide (rootI n * rootI n = n))) H
theorem uLawSquare {K : PySem.W.Frag} {H : Hp} {Q : VK} {E : XK} {vs : List V} {n : Int} (e : vs = [.int n]) (h0 : 0 ≤ n) (h1 : n < 1000000000) (kk : Q (.bl (decide (rootI n * rootI n = n))) H) : spLawSquare K vs H Q E := ⟨n, e, h0, h1, kk⟩
theorem uLawRoot {K : PySem.W.Frag} {H : Hp} {Q : VK} {E : XK} {vs : List V} {n : Int} (e : vs = [.int n]) (h0 : 0 ≤ n) (h1 : n < 1000000000000000000) (kk : Q (.int (rootI n)) H) : spLawRoot K vs H Q E := ⟨n, e, h0, by show n < 1152921504606846976; omega, kk⟩
theorem okLawSquare (T : Txt K mg fa fd) : FnOk P w K mg base CX0 2 (fa 57) (fd 57) ["n"] (spLawSquare K) := by
  refine T.F__law_square.ok scLawSquare (fun vs H Q E h => ?_) (fun cdv A outer s H vs Q E hr h => ?_)
  · obtain ⟨n, rfl, h0, h1, kk⟩ := h
    rfl
  · obtain ⟨n, rfl, h0, h1, kk⟩ := h
    refine ⟨_, (pss_one (ps_ret (pe_and (pe_cmp (pc_ge (pv 0) pe_int)) (pe_one (pe_cmp (pc_eqI (pe_op op_mulW (pe_call (sp := spLawRoot K) (okLawRoot T) hr (by rfl) T.G__law_root T.F__law_root.kp T.B__law_root .nil pass0 (pa_cons (pv 0) pa_nil)) (pe_call (sp := spLawRoot K) (okLawRoot T) hr (by rfl) T.G__law_root T.F__law_root.kp T.B__law_root .nil pass0 (pa_cons (pv 0) pa_nil))) (pv 0))))))), ?_⟩
    obtain ⟨r0, r1⟩ := uLawRoot0 h0
    have br : Bd 60 (rootI n) := Bd.om (by omega)
    clean_wf
    refine wayT (by omega) ?_
    clean_wf
def spLaw (K : PySem.W.Frag) : Sp := fun vs H Q _ => ∃ (a : Addr) (ns : List Int), vs = [.ref a] ∧ SqL K H a (ns.map V.int) ∧ ns.length ≤ 63 ∧ ∀ H', Q (.bl true) H'
theorem okLaw (T : Txt K mg fa fd) : FnOk P w K mg base CX0 21 (fa 58) (fd 58) ["script"] (spLaw K) := by
  refine T.F_law.ok scLaw (fun vs H Q E h => ?_) (fun cdv A outer s H vs Q E hr h => ?_)
  · obtain ⟨l, ns, rfl, hS, hlen, qq⟩ := h
    rfl
  · obtain ⟨l, ns, rfl, hS, hlen, qq⟩ := h
    refine ⟨_, (pss_cons (ps_set (i := 1) scLaw.nd rfl (Or.inr rfl) (pe_call (sp := spLawState K) (okLawState T) (hr.mono (by decide)) (by rfl) T.G__law_state T.F__law_state.kp T.B__law_state .nil pass0 (pa_cons (pv 0) pa_nil)))
      (pss_cons (ps_set (i := 2) scLaw.nd rfl (Or.inl rfl) (pe_ix (ixL K) (pe_lst (pa_cons (pe_op op_add (pe_op op_mulW pe_int (pe_op op_add pe_int (pe_call (sp := spLawNext K) (okLawNext T) (hr.mono (by decide)) (by rfl) T.G__law_next T.F__law_next.kp T.B__law_next .nil pass0 (pa_cons (pv 1) (pa_cons pe_int pa_nil))))) (pe_call (sp := spLawNext K) (okLawNext T) (hr.mono (by decide)) (by rfl) T.G__law_next T.F__law_next.kp T.B__law_next .nil pass0 (pa_cons (pv 1) (pa_cons pe_int pa_nil)))) (pa_cons (pe_op op_sub (pe_op op_sub pe_int (pe_op op_mulW pe_int (pe_op op_add pe_int (pe_call (sp := spLawNext K) (okLawNext T) (hr.mono (by decide)) (by rfl) T.G__law_next T.F__law_next.kp T.B__law_next .nil pass0 (pa_cons (pv 1) (pa_cons pe_int pa_nil)))))) (pe_call (sp := spLawNext K) (okLawNext T) (hr.mono (by decide)) (by rfl) T.G__law_next T.F__law_next.kp T.B__law_next .nil pass0 (pa_cons (pv 1) (pa_cons pe_int pa_nil)))) pa_nil))) (pe_call (sp := spLawNext K) (okLawNext T) (hr.mono (by decide)) (by rfl) T.G__law_next T.F__law_next.kp T.B__law_next .nil pass0 (pa_cons (pv 1) (pa_cons pe_int pa_nil))) (fun _ _ => rfl)))
      (C8.pss_cut (ps_if (PW.pt (pw_and (pt_cmp (pc_gt (pv 2) pe_int)) (pw_and1 (pt_val (pe_call (sp := spLawSquare K) (okLawSquare T) (hr.mono (by decide)) (by rfl) T.G__law_square T.F__law_square.kp T.B__law_square .nil pass0 (pa_cons (pv 2) pa_nil))))))
      (pss_one (ps_ret pe_bl))
      pss_nil)
      (pss_cons (ps_set (i := 3) scLaw.nd rfl (Or.inr rfl) (pe_call (sp := spClasses K) (okClasses T) (hr.mono (by decide)) (by rfl) T.G_classes T.F_classes.kp T.B_classes .nil pass0 (pa_cons (pv 2) pa_nil)))
      (pss_cons (ps_asg (pe_lc (own := [("k", 4)]) (g := gName 4) (tt := tYes) rfl scLaw.nd (pi_range1 (by rfl) T.m_range (pa_cons pe_int pa_nil)) (blkOk_by (own := [("k", 4)]) (N := ["script", "state", "d", "menu", "k", "one", "two", "three", "first", "pair", "many", "found", "other", "order", "at"]) (sc := defScope sLaw) (by decide +kernel)) (fun _ _ _ _ _ => (pg_name (i := 4) scLaw.nd rfl (Or.inl rfl))) (fun _ _ _ _ _ => pts_nil) (fun _ _ _ _ _ => (pe_ix (ixL K) (pv 3) (pe_call (sp := spLawNext K) (okLawNext T) (hr.mono (by decide)) (by rfl) T.G__law_next T.F__law_next.kp T.B__law_next .nil pass0 (pa_cons (pv 1) (pa_cons (pe_callB (lenQ K) (by rfl) T.m_len (by decide +kernel) (pa_cons (pv 3) pa_nil)) pa_nil))) (fun _ _ => rfl)))) (pgU K 3 (by rfl) (pgs_cons (pg_name (i := 5) scLaw.nd rfl (Or.inl rfl)) (pgs_cons (pg_name (i := 6) scLaw.nd rfl (Or.inl rfl)) (pgs_cons (pg_name (i := 7) scLaw.nd rfl (Or.inl rfl)) pgs_nil)))))
      (pss_cons (ps_set (i := 8) scLaw.nd rfl (Or.inl rfl) (pe_call (sp := spPrincipal K) (okPrincipal T) (hr.mono (by decide)) (by rfl) T.G_principal T.F_principal.kp T.B_principal .nil pass0 (pa_cons (pv 2) pa_nil)))
      (pss_cons (ps_set (i := 9) scLaw.nd rfl (Or.inl rfl) (pe_ix (ixT K) (pe_call (sp := spCompose K) (okCompose T) (hr.mono (by decide)) (by rfl) T.G_compose T.F_compose.kp T.B_compose .nil pass0 (pa_cons (pv 5) (pa_cons (pv 6) pa_nil))) pe_int (fun _ _ => rfl)))
      (pss_cons (ps_if (PW.pt (pw_or (pt_cmpR (notInDQ K (room65 hr)) (pv 9) (pv 3) (by with_unfolding_all rfl)) (pw_or (pt_cmpR (neDQ K hr.units) (pe_ix (ixT K) (pe_call (sp := spCompose K) (okCompose T) (hr.mono (by decide)) (by rfl) T.G_compose T.F_compose.kp T.B_compose .nil pass0 (pa_cons (pv 6) (pa_cons (pv 5) pa_nil))) pe_int (fun _ _ => rfl)) (pv 9) (nomark _)) (pw_or1 (pt_cmpR (neDQ K hr.units) (pe_ix (ixT K) (pe_call (sp := spCompose K) (okCompose T) (hr.mono (by decide)) (by rfl) T.G_compose T.F_compose.kp T.B_compose .nil pass0 (pa_cons (pe_call (sp := spLawAct K) (okLawAct T) (hr.mono (by decide)) (by rfl) T.G__law_act T.F__law_act.kp T.B__law_act .nil pass0 (pa_cons (pv 5) (pa_cons (pe_call (sp := spLawChange K) (okLawChange T) (hr.mono (by decide)) (by rfl) T.G__law_change T.F__law_change.kp T.B__law_change .nil pass0 (pa_cons (pv 1) (pa_cons pe_int pa_nil))) pa_nil))) (pa_cons (pv 6) pa_nil))) pe_int (fun _ _ => rfl)) (pv 9) (nomark _))))))
      (pss_one (ps_ret pe_bl))
      pss_nil)
      (pss_cons (ps_if (pt_cmpR (neDQ K hr.units) (pe_ix (ixT K) (pe_call (sp := spCompose K) (okCompose T) (hr.mono (by decide)) (by rfl) T.G_compose T.F_compose.kp T.B_compose .nil pass0 (pa_cons (pv 9) (pa_cons (pv 7) pa_nil))) pe_int (fun _ _ => rfl)) (pe_ix (ixT K) (pe_call (sp := spCompose K) (okCompose T) (hr.mono (by decide)) (by rfl) T.G_compose T.F_compose.kp T.B_compose .nil pass0 (pa_cons (pv 5) (pa_cons (pe_ix (ixT K) (pe_call (sp := spCompose K) (okCompose T) (hr.mono (by decide)) (by rfl) T.G_compose T.F_compose.kp T.B_compose .nil pass0 (pa_cons (pv 6) (pa_cons (pv 7) pa_nil))) pe_int (fun _ _ => rfl)) pa_nil))) pe_int (fun _ _ => rfl)) (nomark _))
      (pss_one (ps_ret pe_bl))
      pss_nil)
      (pss_cons (ps_if (PW.pt (pw_or (pt_cmpR (neDQ K hr.units) (pe_ix (ixT K) (pe_call (sp := spCompose K) (okCompose T) (hr.mono (by decide)) (by rfl) T.G_compose T.F_compose.kp T.B_compose .nil pass0 (pa_cons (pv 5) (pa_cons (pv 8) pa_nil))) pe_int (fun _ _ => rfl)) (pv 5) (nomark _)) (pw_or (pt_cmpR (neDQ K hr.units) (pe_ix (ixT K) (pe_call (sp := spCompose K) (okCompose T) (hr.mono (by decide)) (by rfl) T.G_compose T.F_compose.kp T.B_compose .nil pass0 (pa_cons (pv 5) (pa_cons (pe_call (sp := spOpposite K) (okOpposite T) (hr.mono (by decide)) (by rfl) T.G_opposite T.F_opposite.kp T.B_opposite .nil pass0 (pa_cons (pv 5) pa_nil)) pa_nil))) pe_int (fun _ _ => rfl)) (pv 8) (nomark _)) (pw_or1 (pt_cmpR (neDQ K hr.units) (pe_call (sp := spOpposite K) (okOpposite T) (hr.mono (by decide)) (by rfl) T.G_opposite T.F_opposite.kp T.B_opposite .nil pass0 (pa_cons (pe_call (sp := spOpposite K) (okOpposite T) (hr.mono (by decide)) (by rfl) T.G_opposite T.F_opposite.kp T.B_opposite .nil pass0 (pa_cons (pv 5) pa_nil)) pa_nil)) (pv 5) (nomark _))))))
      (pss_one (ps_ret pe_bl))
      pss_nil)
      (pss_cons (ps_set (i := 10) scLaw.nd rfl (Or.inl rfl) (pe_ix (ixL K) (pe_lst (pa_cons (pe_call (sp := spLawNext K) (okLawNext T) (hr.mono (by decide)) (by rfl) T.G__law_next T.F__law_next.kp T.B__law_next .nil pass0 (pa_cons (pv 1) (pa_cons pe_int pa_nil))) (pa_cons (pe_call (sp := spLawNext K) (okLawNext T) (hr.mono (by decide)) (by rfl) T.G__law_next T.F__law_next.kp T.B__law_next .nil pass0 (pa_cons (pv 1) (pa_cons pe_int pa_nil))) pa_nil))) (pe_callTy (intQ K) (by rfl) T.m_int (by decide +kernel) (pa_cons (pe_cmp (pc_eqI (pe_call (sp := spLawNext K) (okLawNext T) (hr.mono (by decide)) (by rfl) T.G__law_next T.F__law_next.kp T.B__law_next .nil pass0 (pa_cons (pv 1) (pa_cons pe_int pa_nil))) pe_int)) pa_nil)) (fun _ _ => rfl)))
      (pss_cons (ps_set (i := 11) scLaw.nd rfl (Or.inl rfl) (pv 8))
      (pss_cons (ps_for PassesOwn.never rfl (pi_range1 (by rfl) T.m_range (pa_cons (pv 10) pa_nil)) (pg_name (i := 4) scLaw.nd rfl (Or.inl rfl))
      (pss_one (ps_set (i := 11) scLaw.nd rfl (Or.inl rfl) (pe_ix (ixT K) (pe_call (sp := spCompose K) (okCompose T) (hr.mono (by decide)) (by rfl) T.G_compose T.F_compose.kp T.B_compose .nil pass0 (pa_cons (pv 11) (pa_cons (pv 5) pa_nil))) pe_int (fun _ _ => rfl)))))
      (pss_cons (ps_set (i := 12) scLaw.nd rfl (Or.inl rfl) (pe_call (sp := spLawAct K) (okLawAct T) (hr.mono (by decide)) (by rfl) T.G__law_act T.F__law_act.kp T.B__law_act .nil pass0 (pa_cons (pv 5) (pa_cons (pe_call (sp := spLawChange K) (okLawChange T) (hr.mono (by decide)) (by rfl) T.G__law_change T.F__law_change.kp T.B__law_change .nil pass0 (pa_cons (pv 1) (pa_cons pe_int pa_nil))) pa_nil))))
      (pss_cons (ps_if (PW.pt (pw_or (pt_cmpR (neDQ K hr.units) (pe_call (sp := spClassPower K) (okClassPower T) hr (by rfl) T.G_class_power T.F_class_power.kp T.B_class_power .nil pass0 (pa_cons (pv 12) (pa_cons (pv 10) pa_nil))) (pv 11) (nomark _)) (pw_or1 (pt_cmpR (neDQ K hr.units) (pe_call (sp := spClassPower K) (okClassPower T) hr (by rfl) T.G_class_power T.F_class_power.kp T.B_class_power .nil pass0 (pa_cons (pv 12) (pa_cons (pe_un un_neg (pv 10)) pa_nil))) (pe_call (sp := spOpposite K) (okOpposite T) (hr.mono (by decide)) (by rfl) T.G_opposite T.F_opposite.kp T.B_opposite .nil pass0 (pa_cons (pv 11) pa_nil)) (nomark _)))))
      (pss_one (ps_ret pe_bl))
      pss_nil)
      (pss_cons (ps_set (i := 13) scLaw.nd rfl (Or.inl rfl) (pe_call (sp := spClassOrder K) (okClassOrder T) (hr.mono (by decide)) (by rfl) T.G_class_order T.F_class_order.kp T.B_class_order .nil pass0 (pa_cons (pe_call (sp := spLawAct K) (okLawAct T) (hr.mono (by decide)) (by rfl) T.G__law_act T.F__law_act.kp T.B__law_act .nil pass0 (pa_cons (pv 5) (pa_cons (pe_call (sp := spLawChange K) (okLawChange T) (hr.mono (by decide)) (by rfl) T.G__law_change T.F__law_change.kp T.B__law_change .nil pass0 (pa_cons (pv 1) (pa_cons pe_int pa_nil))) pa_nil))) pa_nil)))
      (pss_cons (ps_if (PW.pt (pw_or (pt_cmp (pc_lt (pv 13) pe_int)) (pw_or1 (pt_cmp (pc_gt (pv 13) (pe_callB (lenQ K) (by rfl) T.m_len (by decide +kernel) (pa_cons (pv 3) pa_nil)))))))
      (pss_one (ps_ret pe_bl))
      pss_nil)
      (pss_cons (ps_set (i := 14) scLaw.nd rfl (Or.inl rfl) (pv 5))
      (pss_cons (ps_for PassesOwn.never rfl (pi_range2 (by rfl) T.m_range (pa_cons pe_int (pa_cons (pv 13) pa_nil))) (pg_name (i := 4) scLaw.nd rfl (Or.inl rfl))
      (pss_cons (ps_if (pt_cmpR (eqDQ K hr.units) (pv 14) (pv 8) (nomark _))
        (pss_one (ps_ret pe_bl))
        pss_nil)
        (pss_one (ps_set (i := 14) scLaw.nd rfl (Or.inl rfl) (pe_ix (ixT K) (pe_call (sp := spCompose K) (okCompose T) (hr.mono (by decide)) (by rfl) T.G_compose T.F_compose.kp T.B_compose .nil pass0 (pa_cons (pv 14) (pa_cons (pv 5) pa_nil))) pe_int (fun _ _ => rfl))))))
      (pss_one (ps_ret (pe_cmpR (eqDQ K hr.units) (pv 14) (pv 8) (nomark _))))))))))))))))))))))), ?_⟩
    clean_wf
    refine ⟨l, ns, rfl, hS, fun H1 p q s1 d1 => ?_⟩
    clean_wf
    intro r1 H2 r1a r1b d2 k2
    clean_wf
    intro r2 H3 r2a r2b d3 k3
    clean_wf
    intro r3 H4 r3a r3b d4 k4
    clean_wf
    intro r4 H5 r4a r4b d5 k5
    clean_wf
    intro r5 H6 r5a r5b d6 k6
    have np : tn ≠ p := fresh_ne nn d5
    have hl := k6 _ _ np ht
    obtain ⟨d, hd, e1, e2, e3, e4⟩ : ∃ d : Int, atI [V.int (4 * (2 + r1) + r2), V.int (1 - 4 * (1 + r3) - r4)] r5 = some (.int d) ∧ -400 ≤ d ∧ d ≤ 401 ∧ D4 d ∧ d ≠ 0 := by
      obtain rfl | rfl : r5 = 0 ∨ r5 = 1 := by omega
      · exact ⟨_, rfl, by omega, by omega, by unfold D4; omega, by omega⟩
      · exact ⟨_, rfl, by omega, by omega, by unfold D4; omega, by omega⟩
    refine R.ixL (SqL.of hl) hd ?_
    have d7 := d6.mono (show _ ≤ 100 by omega)
    clear hl hd np k6 d6 d5 d4 d3 d2 k5 k4 k3 k2 ht nn sn r1a r1b r2a r2b r3a r3b r4a r4b r5a r5b d1 s1
    have bd : Bd 60 d := Bd.om (by omega)
    clean_wf
    refine R.cut (Mid := fun σ H' => σ = [some (.ref l), some (.ref p), some (.int d), none, none, none, none, none, none, none, none, none, none, none, none] ∧ DvS d ∧ Dw H' p q 100) ?_ (fun σ H' hM => ?_)
    · skip
      clean_wf
      refine way2 (fun z => ?_) (fun z => ?_)
      · skip
        clean_wf
        refine way2 (fun z2 => ?_) (fun z2 => ?_)
        · skip
          clean_wf
          exact qq _
        · skip
          clean_wf
          exact ⟨rfl, .inr ⟨by omega, e2, z2⟩, d7⟩
      · skip
        clean_wf
        exact ⟨rfl, .inl ⟨by omega, e1⟩, d7⟩
    · obtain ⟨rfl, v, d2⟩ := hM
      clear d7
      have v9 : (d < 0 ∧ -2000 ≤ d) ∨ DvI d := v.imp (fun h => ⟨h.1, by omega⟩) id
      clean_wf
      refine uClasses rfl v9 ?_
      intro H2 lT yT ts s2 nT hT tT aT mT
      have d3 := d2.same s2
      have np : lT ≠ p := fresh_ne nT d2
      have tl := tT.len
      have tl2 := cl_len v aT mT
      have tl3 : 0 < ts.length := List.length_pos_of_mem ((mT _).mpr (eC_in v e3))
      clear nT s2 d2 v9
      clean_wf
      refine R.lcDV (p := p) (a := q) (N := 100) (c := 1) (fun x => x ∈ yT) (by decide) d3 (fun j H3 Q3 hj d4 k4 q3 => ?_) (fun H3 D xs hD hl hx d4 k4 nD npD => ?_)
      · have hT3 := k4 _ _ np hT
        clean_wf
        refine ⟨rfl, ?_⟩
        clean_wf
        refine R.lenL (SqL.of hT3) ?_
        clean_wf
        intro r H4 ra rb d5 k5
        have hT4 := k5 _ _ np hT3
        obtain ⟨ri, hri⟩ : ∃ ri : Nat, r = (ri : Int) := ⟨r.toNat, by omega⟩
        subst hri
        have hyk : yT[ri]? = some (yT[ri]'(by omega)) := List.getElem?_eq_getElem (by omega)
        refine R.ixL (SqL.of hT4) (v := yT[ri]'(by omega)) (atI_nat hyk) ?_
        exact q3 _ _ (List.mem_of_getElem? hyk) (d5.mono (by omega)) k5
      · skip
        obtain ⟨x1, x2, x3, rfl⟩ : ∃ x y z, xs = [x, y, z] := by
          match xs, hl with
          | [x, y, z], _ => exact ⟨x, y, z, rfl⟩
        have hT := k4 _ _ np hT
        have tT := tT.kt (k4.kt d3)
        obtain ⟨a1, ⟨A, B, C⟩, rfl, sa1, i1⟩ := menu_of tT mT v (hx x1 (by simp))
        obtain ⟨a2, f2, rfl, sa2, i2⟩ := menu_of tT mT v (hx x2 (by simp))
        obtain ⟨a3, f3, rfl, sa3, i3⟩ := menu_of tT mT v (hx x3 (by simp))
        have F1 := (cl_fd v i1).1
        have F2 := (cl_fd v i2).1
        have F3 := (cl_fd v i3).1
        have c1 := clf_self v i1
        have c2 := clf_self v i2
        have c3 := clf_self v i3
        have m1 := InC.sm v i1
        have m2 := InC.sm v i2
        have m3 := InC.sm v i3
        have dc := d4.mono (show _ ≤ 200 by omega)
        have ie := eC_in v e3
        have ce := clf_self v ie
        have Fe := (cl_fd v ie).1
        have me := InC.sm v ie
        have dab := dvs_abs v
        obtain ⟨w1, w2, w3⟩ := cl_small (a := A) (b := B) (c := C) v i1
        have bA : Bd 60 A := Bd.om (by omega)
        have bB : Bd 60 B := Bd.om (by omega)
        have bC : Bd 60 C := Bd.om (by omega)
        refine r_gunl (SqL.of hD) rfl ?_
        clear hD hl hx d4 k4 d3 nD npD
        clean_wf
        refine uPrincipal rfl (by omega) ((prin_fd e3).ins v) ?_
        intro H4 tP x0 y0 z0 s4 sP C0
        have sP : SqT K H4 tP ((fL (eC d)).map V.int) := by
          have e : (x0, y0, z0) = eC d := clf_of v (prin_fd e3) C0
          rw [← e]
          exact sP
        have sa1 := same_seqT s4 sa1
        have sa2 := same_seqT s4 sa2
        have sa3 := same_seqT s4 sa3
        have hT := s4 _ _ hT
        have tT := tT.same s4
        have dc := dc.same s4
        clean_wf
        obtain ⟨pr, hpr⟩ : ∃ x, cm d (A, B, C) f2 = x := ⟨_, rfl⟩
        have ip : InC d pr := hpr ▸ cm_in v i1 i2
        have cp := clf_self v ip
        have Fp := (cl_fd v ip).1
        have mp := InC.sm v ip
        obtain ⟨q23, hq⟩ : ∃ x, cm d f2 f3 = x := ⟨_, rfl⟩
        have iq : InC d q23 := hq ▸ cm_in v i2 i3
        have cq := clf_self v iq
        have Fq := (cl_fd v iq).1
        have mq := InC.sm v iq
        refine uComposeC (f := (A, B, C)) (g := f2) rfl sa1 sa2 v F1 F2 m1 m2 ?_
        intro H100 t100 tF100 tr100 s100 ht100 sPr
        rw [c1, c2, hpr] at sPr
        have sa1 := same_seqT s100 sa1
        have sa2 := same_seqT s100 sa2
        have sa3 := same_seqT s100 sa3
        have sP := same_seqT s100 sP
        have hT := s100 _ _ hT
        have tT := tT.same s100
        have dc := dc.same s100
        clean_wf
        clear ht100 s100
        refine R.notInT sPr (SqL.of hT) tT ?_
        rw [decide_eq_true ((mT _).mpr ip)]
        clean_wf
        refine uComposeC (f := f2) (g := (A, B, C)) rfl sa2 sa1 v F2 F1 m2 m1 ?_
        intro H101 t101 tF101 tr101 s101 ht101 sX6
        rw [c2, c1, cm_comm v i2 i1, hpr] at sX6
        have sa1 := same_seqT s101 sa1
        have sa2 := same_seqT s101 sa2
        have sa3 := same_seqT s101 sa3
        have sP := same_seqT s101 sP
        have sPr := same_seqT s101 sPr
        have hT := s101 _ _ hT
        have tT := tT.same s101
        have dc := dc.same s101
        clean_wf
        clear ht101 s101
        refine R.neTs sX6 sPr rfl ?_
        rw [decide_eq_true (rfl)]
        clean_wf
        intro Ha tma u1a u2a u3a u4a dna ka sM la
        have sa1 := kp_seqT ka dc sa1
        have sa2 := kp_seqT ka dc sa2
        have sa3 := kp_seqT ka dc sa3
        have sP := kp_seqT ka dc sP
        have sPr := kp_seqT ka dc sPr
        have hT := ka _ _ np hT
        have tT := tT.kt (ka.kt dc)
        have dc := dna
        clear ka
        have la := la.mono (show Int.toNat 2 ≤ 2 by decide)
        obtain ⟨g1, g2, g3, g4⟩ := la.bd (by decide)
        have sza := act_size (a := A) (b := B) (c := C) (C := 401) (M := 9) (by omega) (by omega) (by omega) la.2.1 la.2.2.1 la.2.2.2.1 la.2.2.2.2
        have sa1' : SqT K _ a1 [.int A, .int B, .int C] := sa1
        clean_wf
        have sqa : SqT K HN tn [.int (fA A B C u1a u3a), .int (fB A B C u1a u2a u3a u4a), .int (fA A B C u2a u4a)] := SqT.of ht
        have sa1 := same_seqT sn sa1
        have sa2 := same_seqT sn sa2
        have sa3 := same_seqT sn sa3
        have sP := same_seqT sn sP
        have sPr := same_seqT sn sPr
        have hT := sn _ _ hT
        have tT := tT.same sn
        have dc := dc.same sn
        have Ga : FdF d (fA A B C u1a u3a, fB A B C u1a u2a u3a u4a, fA A B C u2a u4a) := F1.act la.1
        have cga : clf d (fA A B C u1a u3a, fB A B C u1a u2a u3a u4a, fA A B C u2a u4a) = clf d (A, B, C) := clf_move (m := (u1a, u2a, u3a, u4a)) v F1 la.1
        have coa := opC_move (m := (u1a, u2a, u3a, u4a)) v F1 la.1
        have coa : opC d (fA A B C u1a u3a, fB A B C u1a u2a u3a u4a, fA A B C u2a u4a) = opC d (A, B, C) := coa
        obtain ⟨z1, z2, z3⟩ := sza
        clear ht sn sa1' g1 g2 g3 g4 la sM
        generalize tn = toa at *
        generalize HN = Hoa at *
        generalize fA A B C u1a u3a = Xa at *
        generalize fB A B C u1a u2a u3a u4a = Ya at *
        generalize fA A B C u2a u4a = Za at *
        have moa : SmF (Xa, Ya, Za) := ⟨by show Xa.natAbs ≤ _; omega, by show Ya.natAbs ≤ _; omega, by show Za.natAbs ≤ _; omega⟩
        have sqa : SqT K Hoa toa ((fL (Xa, Ya, Za)).map V.int) := sqa
        refine uComposeC (f := (Xa, Ya, Za)) (g := f2) rfl sqa sa2 v Ga F2 moa m2 ?_
        intro H102 t102 tF102 tr102 s102 ht102 sX7
        rw [cga, c1, c2, hpr] at sX7
        have sa1 := same_seqT s102 sa1
        have sa2 := same_seqT s102 sa2
        have sa3 := same_seqT s102 sa3
        have sP := same_seqT s102 sP
        have sPr := same_seqT s102 sPr
        have sqa := same_seqT s102 sqa
        have hT := s102 _ _ hT
        have tT := tT.same s102
        have dc := dc.same s102
        clean_wf
        clear ht102 s102
        refine R.neTs sX7 sPr rfl ?_
        rw [decide_eq_true (rfl)]
        clean_wf
        clear sX6 sX7 sqa
        refine uComposeC (f := pr) (g := f3) rfl sPr sa3 v Fp F3 mp m3 ?_
        intro H103 t103 tF103 tr103 s103 ht103 sY1
        rw [cp, c3] at sY1
        have sa1 := same_seqT s103 sa1
        have sa2 := same_seqT s103 sa2
        have sa3 := same_seqT s103 sa3
        have sP := same_seqT s103 sP
        have sPr := same_seqT s103 sPr
        have hT := s103 _ _ hT
        have tT := tT.same s103
        have dc := dc.same s103
        clean_wf
        clear ht103 s103
        refine uComposeC (f := f2) (g := f3) rfl sa2 sa3 v F2 F3 m2 m3 ?_
        intro H104 t104 tF104 tr104 s104 ht104 sY2
        rw [c2, c3, hq] at sY2
        have sa1 := same_seqT s104 sa1
        have sa2 := same_seqT s104 sa2
        have sa3 := same_seqT s104 sa3
        have sP := same_seqT s104 sP
        have sPr := same_seqT s104 sPr
        have sY1 := same_seqT s104 sY1
        have hT := s104 _ _ hT
        have tT := tT.same s104
        have dc := dc.same s104
        clean_wf
        clear ht104 s104
        refine uComposeC (f := (A, B, C)) (g := q23) rfl sa1 sY2 v F1 Fq m1 mq ?_
        intro H105 t105 tF105 tr105 s105 ht105 sY3
        rw [c1, cq] at sY3
        have sa1 := same_seqT s105 sa1
        have sa2 := same_seqT s105 sa2
        have sa3 := same_seqT s105 sa3
        have sP := same_seqT s105 sP
        have sPr := same_seqT s105 sPr
        have sY1 := same_seqT s105 sY1
        have sY2 := same_seqT s105 sY2
        have hT := s105 _ _ hT
        have tT := tT.same s105
        have dc := dc.same s105
        clean_wf
        clear ht105 s105
        refine R.neTs sY1 sY3 rfl ?_
        rw [decide_eq_true (by rw [← hpr, ← hq, cm_assoc v i1 i2 i3])]
        clean_wf
        clear sY1 sY2 sY3 sPr
        refine uComposeC (f := (A, B, C)) (g := (eC d)) rfl sa1 sP v F1 Fe m1 me ?_
        intro H106 t106 tF106 tr106 s106 ht106 sZ1
        rw [c1, ce, cm_one v e3 i1] at sZ1
        have sa1 := same_seqT s106 sa1
        have sa2 := same_seqT s106 sa2
        have sa3 := same_seqT s106 sa3
        have sP := same_seqT s106 sP
        have hT := s106 _ _ hT
        have tT := tT.same s106
        have dc := dc.same s106
        clean_wf
        clear ht106 s106
        refine R.neTs sZ1 sa1 rfl ?_
        rw [decide_eq_true (rfl)]
        clean_wf
        clear sZ1
        refine uOpposite rfl sa1 m1.1 m1.2.1 m1.2.2 (F1.mir.ins v) ?_
        intro Hpb tpb xpb ypb zpb spb svb Cpb
        have epb : (xpb, ypb, zpb) = opC d (A, B, C) := clf_of v F1.mir Cpb
        have ipb : InC d (xpb, ypb, zpb) := epb ▸ opC_inC v i1
        have Fpb := (cl_fd v ipb).1
        have cpb := clf_self v ipb
        have mpb := InC.sm v ipb
        have sa1 := same_seqT spb sa1
        have sa2 := same_seqT spb sa2
        have sa3 := same_seqT spb sa3
        have sP := same_seqT spb sP
        have hT := spb _ _ hT
        have tT := tT.same spb
        have dc := dc.same spb
        clean_wf
        refine uComposeC (f := (A, B, C)) (g := (xpb, ypb, zpb)) rfl sa1 svb v F1 Fpb m1 mpb ?_
        intro H107 t107 tF107 tr107 s107 ht107 sZ2
        rw [c1, cpb, epb, cm_opp v e3 i1] at sZ2
        have sa1 := same_seqT s107 sa1
        have sa2 := same_seqT s107 sa2
        have sa3 := same_seqT s107 sa3
        have sP := same_seqT s107 sP
        have svb := same_seqT s107 svb
        have hT := s107 _ _ hT
        have tT := tT.same s107
        have dc := dc.same s107
        clean_wf
        clear ht107 s107
        refine R.neTs sZ2 sP rfl ?_
        rw [decide_eq_true (rfl)]
        clean_wf
        clear sZ2 svb
        refine uOpposite rfl sa1 m1.1 m1.2.1 m1.2.2 (F1.mir.ins v) ?_
        intro Hpc tpc xpc ypc zpc spc svc Cpc
        have epc : (xpc, ypc, zpc) = opC d (A, B, C) := clf_of v F1.mir Cpc
        have ipc : InC d (xpc, ypc, zpc) := epc ▸ opC_inC v i1
        have Fpc := (cl_fd v ipc).1
        have cpc := clf_self v ipc
        have mpc := InC.sm v ipc
        have sa1 := same_seqT spc sa1
        have sa2 := same_seqT spc sa2
        have sa3 := same_seqT spc sa3
        have sP := same_seqT spc sP
        have hT := spc _ _ hT
        have tT := tT.same spc
        have dc := dc.same spc
        clean_wf
        refine uOpposite rfl svc mpc.1 mpc.2.1 mpc.2.2 (Fpc.mir.ins v) ?_
        intro Hpe tpe xpe ype zpe spe sve Cpe
        have epe : (xpe, ype, zpe) = opC d (xpc, ypc, zpc) := clf_of v Fpc.mir Cpe
        have ipe : InC d (xpe, ype, zpe) := epe ▸ opC_inC v ipc
        have Fpe := (cl_fd v ipe).1
        have cpe := clf_self v ipe
        have mpe := InC.sm v ipe
        have sa1 := same_seqT spe sa1
        have sa2 := same_seqT spe sa2
        have sa3 := same_seqT spe sa3
        have sP := same_seqT spe sP
        have svc := same_seqT spe svc
        have hT := spe _ _ hT
        have tT := tT.same spe
        have dc := dc.same spe
        rw [epc, opC_opC v e3 i1] at epe
        obtain ⟨rfl, rfl, rfl⟩ : A = xpe ∧ B = ype ∧ C = zpe := by
          injection epe with h1 h2
          injection h2 with h2 h3
          exact ⟨h1.symm, h2.symm, h3.symm⟩
        have sa1' : SqT K Hpe a1 [.int A, .int B, .int C] := sa1
        clean_wf
        clear svc sve Cpe sa1'
        intro r6 H6 r6a r6b d6 k6
        have sa1 := kp_seqT k6 dc sa1
        have sa2 := kp_seqT k6 dc sa2
        have sa3 := kp_seqT k6 dc sa3
        have sP := kp_seqT k6 dc sP
        have hT := k6 _ _ np hT
        have tT := tT.kt (k6.kt dc)
        have dc := d6
        clear k6
        clean_wf
        intro r7 H7 r7a r7b d7 k7
        have sa1 := kp_seqT k7 dc sa1
        have sa2 := kp_seqT k7 dc sa2
        have sa3 := kp_seqT k7 dc sa3
        have sP := kp_seqT k7 dc sP
        have hT := k7 _ _ np hT
        have tT := tT.kt (k7.kt dc)
        have dc := d7
        clear k7
        clean_wf
        have np2 : tn ≠ p := fresh_ne nn dc
        have sa1 := same_seqT sn sa1
        have sa2 := same_seqT sn sa2
        have sa3 := same_seqT sn sa3
        have sP := same_seqT sn sP
        have hT := sn _ _ hT
        have tT := tT.same sn
        have dc := dc.same sn
        intro r8 H8 r8a r8b d8 k8
        have hl := k8 _ _ np2 ht
        have sa1 := kp_seqT k8 dc sa1
        have sa2 := kp_seqT k8 dc sa2
        have sa3 := kp_seqT k8 dc sa3
        have sP := kp_seqT k8 dc sP
        have hT := k8 _ _ np hT
        have tT := tT.kt (k8.kt dc)
        have dc := d8
        clear k8
        clear ht sn nn np2
        clean_wf
        obtain ⟨mn, hmn, mn1⟩ : ∃ mn : Nat, atI [V.int r6, V.int r7] (if decide (r8 = 0) = true then 1 else 0) = some (.int (mn : Int)) ∧ mn < 60 := by
          by_cases z : r8 = 0
          · exact ⟨r7.toNat, by rw [decide_eq_true z, Int.toNat_of_nonneg r7a]; rfl, by omega⟩
          · exact ⟨r6.toNat, by rw [decide_eq_false z, Int.toNat_of_nonneg r6a]; rfl, by omega⟩
        refine R.ixL (SqL.of hl) hmn ?_
        clear hl hmn
        clean_wf
        refine R.forN (lo := 0) (n := (mn : Int).toNat) (fun i σ H' => ∃ (x4 : Option V) (tf : Addr), σ = [some (.ref l), some (.ref p), some (.int d), some (.ref lT), x4, some (.ref a1), some (.ref a2), some (.ref a3), some (.ref tP), some (.ref tF100), some (.int (mn : Int)), some (.ref tf), none, none, none] ∧ Same H8 H' ∧ SqT K H' tf ((fL (pw d (A, B, C) i)).map V.int))
          ⟨_, tP, rfl, Same.refl _, sP⟩ (fun i σ H' hi hPv => ?_) (fun σ H' hPv => ?_)
        · obtain ⟨x4, tf, rfl, s9, sfd⟩ := hPv
          have sa1 := same_seqT s9 sa1
          have kp := pw_in v e3 i1 i
          obtain ⟨g, hg⟩ : ∃ g, pw d (A, B, C) i = g := ⟨_, rfl⟩
          have nx9 : pw d (A, B, C) (i + 1) = cm d g (A, B, C) := by
            show cm d (pw d (A, B, C) i) (A, B, C) = _
            rw [hg]
          rw [hg] at sfd kp
          have cg := clf_self v kp
          clean_wf
          refine uComposeC (g := (A, B, C)) rfl sfd sa1 v (cl_fd v kp).1 F1 (InC.sm v kp) m1 ?_
          intro H10 t10 tF10 tr10 s10 ht10 sF10
          rw [cg, c1, ← nx9] at sF10
          clean_wf
          exact ⟨_, tF10, rfl, s9.trans s10, sF10⟩
        obtain ⟨x4, tf, rfl, s9, sfd⟩ := hPv
        rw [Int.toNat_natCast] at sfd
        obtain ⟨⟨U, V9, W9⟩, hU⟩ : ∃ g, pw d (A, B, C) mn = g := ⟨_, rfl⟩
        have iU : InC d (U, V9, W9) := hU ▸ pw_in v e3 i1 mn
        have FU := (cl_fd v iU).1
        have mU := InC.sm v iU
        rw [hU] at sfd
        have sa1 := same_seqT s9 sa1
        have sa2 := same_seqT s9 sa2
        have sa3 := same_seqT s9 sa3
        have sP := same_seqT s9 sP
        have hT := s9 _ _ hT
        have tT := tT.same s9
        have dc := dc.same s9
        clear s9
        clean_wf
        intro Hf tmf u1f u2f u3f u4f dnf kf sM lf
        have sa1 := kp_seqT kf dc sa1
        have sa2 := kp_seqT kf dc sa2
        have sa3 := kp_seqT kf dc sa3
        have sP := kp_seqT kf dc sP
        have sfd := kp_seqT kf dc sfd
        have hT := kf _ _ np hT
        have tT := tT.kt (kf.kt dc)
        have dc := dnf
        clear kf
        have lf := lf.mono (show Int.toNat 2 ≤ 2 by decide)
        obtain ⟨g1, g2, g3, g4⟩ := lf.bd (by decide)
        have szf := act_size (a := A) (b := B) (c := C) (C := 401) (M := 9) (by omega) (by omega) (by omega) lf.2.1 lf.2.2.1 lf.2.2.2.1 lf.2.2.2.2
        have sa1' : SqT K _ a1 [.int A, .int B, .int C] := sa1
        clean_wf
        have sqf : SqT K HN tn [.int (fA A B C u1f u3f), .int (fB A B C u1f u2f u3f u4f), .int (fA A B C u2f u4f)] := SqT.of ht
        have sa1 := same_seqT sn sa1
        have sa2 := same_seqT sn sa2
        have sa3 := same_seqT sn sa3
        have sP := same_seqT sn sP
        have sfd := same_seqT sn sfd
        have hT := sn _ _ hT
        have tT := tT.same sn
        have dc := dc.same sn
        have Gf : FdF d (fA A B C u1f u3f, fB A B C u1f u2f u3f u4f, fA A B C u2f u4f) := F1.act lf.1
        have cgf : clf d (fA A B C u1f u3f, fB A B C u1f u2f u3f u4f, fA A B C u2f u4f) = clf d (A, B, C) := clf_move (m := (u1f, u2f, u3f, u4f)) v F1 lf.1
        have cof := opC_move (m := (u1f, u2f, u3f, u4f)) v F1 lf.1
        have cof : opC d (fA A B C u1f u3f, fB A B C u1f u2f u3f u4f, fA A B C u2f u4f) = opC d (A, B, C) := cof
        obtain ⟨z1, z2, z3⟩ := szf
        clear ht sn sa1' g1 g2 g3 g4 lf sM
        generalize tn = tof at *
        generalize HN = Hof at *
        generalize fA A B C u1f u3f = Xf at *
        generalize fB A B C u1f u2f u3f u4f = Yf at *
        generalize fA A B C u2f u4f = Zf at *
        have mof : SmF (Xf, Yf, Zf) := ⟨by show Xf.natAbs ≤ _; omega, by show Yf.natAbs ≤ _; omega, by show Zf.natAbs ≤ _; omega⟩
        have sqf : SqT K Hof tof ((fL (Xf, Yf, Zf)).map V.int) := sqf
        refine ⟨tof, d, (Xf, Yf, Zf), (mn : Int), rfl, sqf, v, e3, Gf, mof, by omega, ?_⟩
        intro Hw tw sw sW
        rw [if_neg (by omega), cgf, c1, Int.natAbs_natCast, hU] at sW
        have sa1 := same_seqT sw sa1
        have sa2 := same_seqT sw sa2
        have sa3 := same_seqT sw sa3
        have sP := same_seqT sw sP
        have sfd := same_seqT sw sfd
        have sqf := same_seqT sw sqf
        have hT := sw _ _ hT
        have tT := tT.same sw
        have dc := dc.same sw
        clean_wf
        refine R.neTs sW sfd rfl ?_
        rw [decide_eq_true (rfl)]
        clean_wf
        clear sW sw
        refine ⟨tof, d, (Xf, Yf, Zf), -(mn : Int), rfl, sqf, v, e3, Gf, mof, by omega, ?_⟩
        intro Hv tv sv9 sV
        have eV : (if -(mn : Int) < 0 then pw d (opC d (Xf, Yf, Zf)) (-(mn : Int)).natAbs else pw d (clf d (Xf, Yf, Zf)) (-(mn : Int)).natAbs) = opC d (U, V9, W9) := by
          rw [Int.natAbs_neg, Int.natAbs_natCast, cof, cgf, c1, ← hU]
          by_cases z : mn = 0
          · subst z
            rw [if_neg (by omega)]
            exact pw_opp v e3 i1 0
          · rw [if_pos (by omega)]
            exact pw_opp v e3 i1 mn
        rw [eV] at sV
        have sa1 := same_seqT sv9 sa1
        have sa2 := same_seqT sv9 sa2
        have sa3 := same_seqT sv9 sa3
        have sP := same_seqT sv9 sP
        have sfd := same_seqT sv9 sfd
        have sqf := same_seqT sv9 sqf
        have hT := sv9 _ _ hT
        have tT := tT.same sv9
        have dc := dc.same sv9
        clear sv9 eV
        clean_wf
        refine uOpposite rfl sfd mU.1 mU.2.1 mU.2.2 (FU.mir.ins v) ?_
        intro Hpg tpg xpg ypg zpg spg svg Cpg
        have epg : (xpg, ypg, zpg) = opC d (U, V9, W9) := clf_of v FU.mir Cpg
        have ipg : InC d (xpg, ypg, zpg) := epg ▸ opC_inC v iU
        have Fpg := (cl_fd v ipg).1
        have cpg := clf_self v ipg
        have mpg := InC.sm v ipg
        have sa1 := same_seqT spg sa1
        have sa2 := same_seqT spg sa2
        have sa3 := same_seqT spg sa3
        have sP := same_seqT spg sP
        have sfd := same_seqT spg sfd
        have sqf := same_seqT spg sqf
        have sV := same_seqT spg sV
        have hT := spg _ _ hT
        have tT := tT.same spg
        have dc := dc.same spg
        rw [← epg] at sV
        have sV : SqT K Hpg tv [.int xpg, .int ypg, .int zpg] := sV
        clean_wf
        clear sV svg sfd sqf Cpg
        intro Hh tmh u1h u2h u3h u4h dnh kh sM lh
        have sa1 := kp_seqT kh dc sa1
        have sa2 := kp_seqT kh dc sa2
        have sa3 := kp_seqT kh dc sa3
        have sP := kp_seqT kh dc sP
        have hT := kh _ _ np hT
        have tT := tT.kt (kh.kt dc)
        have dc := dnh
        clear kh
        have lh := lh.mono (show Int.toNat 2 ≤ 2 by decide)
        obtain ⟨g1, g2, g3, g4⟩ := lh.bd (by decide)
        have szh := act_size (a := A) (b := B) (c := C) (C := 401) (M := 9) (by omega) (by omega) (by omega) lh.2.1 lh.2.2.1 lh.2.2.2.1 lh.2.2.2.2
        have sa1' : SqT K _ a1 [.int A, .int B, .int C] := sa1
        clean_wf
        have sqh : SqT K HN tn [.int (fA A B C u1h u3h), .int (fB A B C u1h u2h u3h u4h), .int (fA A B C u2h u4h)] := SqT.of ht
        have sa1 := same_seqT sn sa1
        have sa2 := same_seqT sn sa2
        have sa3 := same_seqT sn sa3
        have sP := same_seqT sn sP
        have hT := sn _ _ hT
        have tT := tT.same sn
        have dc := dc.same sn
        have Gh : FdF d (fA A B C u1h u3h, fB A B C u1h u2h u3h u4h, fA A B C u2h u4h) := F1.act lh.1
        have cgh : clf d (fA A B C u1h u3h, fB A B C u1h u2h u3h u4h, fA A B C u2h u4h) = clf d (A, B, C) := clf_move (m := (u1h, u2h, u3h, u4h)) v F1 lh.1
        have coh := opC_move (m := (u1h, u2h, u3h, u4h)) v F1 lh.1
        have coh : opC d (fA A B C u1h u3h, fB A B C u1h u2h u3h u4h, fA A B C u2h u4h) = opC d (A, B, C) := coh
        obtain ⟨z1, z2, z3⟩ := szh
        clear ht sn sa1' g1 g2 g3 g4 lh sM
        generalize tn = toh at *
        generalize HN = Hoh at *
        generalize fA A B C u1h u3h = Xh at *
        generalize fB A B C u1h u2h u3h u4h = Yh at *
        generalize fA A B C u2h u4h = Zh at *
        have moh : SmF (Xh, Yh, Zh) := ⟨by show Xh.natAbs ≤ _; omega, by show Yh.natAbs ≤ _; omega, by show Zh.natAbs ≤ _; omega⟩
        have sqh : SqT K Hoh toh ((fL (Xh, Yh, Zh)).map V.int) := sqh
        obtain ⟨ko, ko1, ko2, ko3, ko4⟩ := pw_back v e3 i1 (fun z hz => (mT z).mpr hz)
        refine ⟨toh, d, (Xh, Yh, Zh), ko, rfl, sqh, v, e3, Gh, moh, ko1, by omega, by rw [cgh, c1]; exact ko3, fun j j1 j2 => by rw [cgh, c1]; exact ko4 j j1 j2, ?_⟩
        intro Hk shk
        have sa1 := same_seqT shk sa1
        have sa2 := same_seqT shk sa2
        have sa3 := same_seqT shk sa3
        have sP := same_seqT shk sP
        have sqh := same_seqT shk sqh
        have hT := shk _ _ hT
        have tT := tT.same shk
        have dc := dc.same shk
        clean_wf
        clear shk sqh Gh cgh coh moh
        refine wayF (by omega) ?_
        clean_wf
        refine R.lenL (SqL.of hT) ?_
        clean_wf
        refine wayF (by omega) ?_
        clean_wf
        refine R.forN (lo := 1) (n := ((ko : Int) - 1).toNat) (fun i σ H' => ∃ (x4 : Option V) (tat : Addr), σ = [some (.ref l), some (.ref p), some (.int d), some (.ref lT), x4, some (.ref a1), some (.ref a2), some (.ref a3), some (.ref tP), some (.ref tF100), some (.int (mn : Int)), some (.ref tf), some (.ref tof), some (.int (ko : Int)), some (.ref tat)] ∧ Same Hk H' ∧ SqT K H' tat ((fL (pw d (A, B, C) (i + 1))).map V.int))
          ⟨_, a1, rfl, Same.refl _, by rw [pw_one v e3 i1]; exact sa1⟩ (fun i σ H' hi hPv => ?_) (fun σ H' hPv => ?_)
        · obtain ⟨x4, tat, rfl, s9, sat⟩ := hPv
          have sa1 := same_seqT s9 sa1
          have sP := same_seqT s9 sP
          have kp := pw_in v e3 i1 (i + 1)
          have n9 := ko4 (i + 1) (by omega) (by omega)
          obtain ⟨g, hg⟩ : ∃ g, pw d (A, B, C) (i + 1) = g := ⟨_, rfl⟩
          have nx9 : pw d (A, B, C) (i + 1 + 1) = cm d g (A, B, C) := by
            show cm d (pw d (A, B, C) (i + 1)) (A, B, C) = _
            rw [hg]
          rw [hg] at sat kp n9
          have cg := clf_self v kp
          clean_wf
          refine R.eqTs sat sP rfl ?_
          rw [decide_eq_false (fun h => n9 (fL_inj h))]
          clean_wf
          refine uComposeC (g := (A, B, C)) rfl sat sa1 v (cl_fd v kp).1 F1 (InC.sm v kp) m1 ?_
          intro H10 t10 tF10 tr10 s10 ht10 sF10
          rw [cg, c1, ← nx9] at sF10
          clean_wf
          exact ⟨_, tF10, rfl, s9.trans s10, sF10⟩
        obtain ⟨x4, tat, rfl, s9, sat⟩ := hPv
        rw [show ((ko : Int) - 1).toNat + 1 = ko by omega, ko3] at sat
        have sP := same_seqT s9 sP
        clean_wf
        refine R.eqTs sat sP rfl ?_
        rw [decide_eq_true rfl]
        exact qq _
end
theorem all_mk {l : PySem.W.OpenLaw} {w : World} {K : PySem.W.Frag} {h : Heap} {mg : Str → Option Value} {f : Addr} (X : K.In h) (G : h.Ns mainGlobals mg) (hfa : mg "law" = some (.ref f))
    {f0 f1 f2 f3 f4 f5 f6 f7 f8 f9 f10 f11 f12 f13 f14 f15 f16 f17 f18 f19 f20 f21 f22 f23 f24 f25 f26 f27 f28 f29 f30 f31 f32 f33 f34 f35 f36 f37 f38 f39 f40 f41 f42 f43 f44 f45 f46 f47 f48 f49 f50 f51 f52 f53 f54 f55 f56 f57 f58 : Addr}
    {od0 an0 od1 an1 od2 an2 od3 an3 od4 an4 od5 an5 od6 an6 od7 an7 od8 an8 od9 an9 od10 an10 od11 an11 od12 an12 od13 an13 od14 an14 od15 an15 od16 an16 od17 an17 od18 an18 od19 an19 od20 an20 od21 an21 od22 an22 od23 an23 od24 an24 od25 an25 od26 an26 od27 an27 od28 an28 od29 an29 od30 an30 od31 an31 od32 an32 od33 an33 od34 an34 od35 an35 od36 an36 od37 an37 od38 an38 od39 an39 od40 an40 od41 an41 od42 an42 od43 an43 od44 an44 od45 an45 od46 an46 od47 an47 od48 an48 od49 an49 od50 an50 od51 an51 od52 an52 od53 an53 od54 an54 od55 an55 od56 an56 od57 an57 od58 an58 : Option Addr} {sl0 sl1 sl2 sl3 sl4 sl5 sl6 sl7 sl8 sl9 sl10 sl11 sl12 sl13 sl14 sl15 sl16 sl17 sl18 sl19 sl20 sl21 sl22 sl23 sl24 sl25 sl26 sl27 sl28 sl29 sl30 sl31 sl32 sl33 sl34 sl35 sl36 sl37 sl38 sl39 sl40 sl41 sl42 sl43 sl44 sl45 sl46 sl47 sl48 sl49 sl50 sl51 sl52 sl53 sl54 sl55 sl56 sl57 sl58 : Array (Option Value)}
    {oc0 kV0 dc0 pm0 cd0 ct0 oc1 kV1 dc1 pm1 cd1 ct1 oc2 kV2 dc2 pm2 cd2 ct2 oc3 kV3 dc3 pm3 cd3 ct3 oc4 kV4 dc4 pm4 cd4 ct4 oc5 kV5 dc5 pm5 cd5 ct5 oc6 kV6 dc6 pm6 cd6 ct6 oc7 kV7 dc7 pm7 cd7 ct7 oc8 kV8 dc8 pm8 cd8 ct8 oc9 kV9 dc9 pm9 cd9 ct9 oc10 kV10 dc10 pm10 cd10 ct10 oc11 kV11 dc11 pm11 cd11 ct11 oc12 kV12 dc12 pm12 cd12 ct12 oc13 kV13 dc13 pm13 cd13 ct13 oc14 kV14 dc14 pm14 cd14 ct14 oc15 kV15 dc15 pm15 cd15 ct15 oc16 kV16 dc16 pm16 cd16 ct16 oc17 kV17 dc17 pm17 cd17 ct17 oc18 kV18 dc18 pm18 cd18 ct18 oc19 kV19 dc19 pm19 cd19 ct19 oc20 kV20 dc20 pm20 cd20 ct20 oc21 kV21 dc21 pm21 cd21 ct21 oc22 kV22 dc22 pm22 cd22 ct22 oc23 kV23 dc23 pm23 cd23 ct23 oc24 kV24 dc24 pm24 cd24 ct24 oc25 kV25 dc25 pm25 cd25 ct25 oc26 kV26 dc26 pm26 cd26 ct26 oc27 kV27 dc27 pm27 cd27 ct27 oc28 kV28 dc28 pm28 cd28 ct28 oc29 kV29 dc29 pm29 cd29 ct29 oc30 kV30 dc30 pm30 cd30 ct30 oc31 kV31 dc31 pm31 cd31 ct31 oc32 kV32 dc32 pm32 cd32 ct32 oc33 kV33 dc33 pm33 cd33 ct33 oc34 kV34 dc34 pm34 cd34 ct34 oc35 kV35 dc35 pm35 cd35 ct35 oc36 kV36 dc36 pm36 cd36 ct36 oc37 kV37 dc37 pm37 cd37 ct37 oc38 kV38 dc38 pm38 cd38 ct38 oc39 kV39 dc39 pm39 cd39 ct39 oc40 kV40 dc40 pm40 cd40 ct40 oc41 kV41 dc41 pm41 cd41 ct41 oc42 kV42 dc42 pm42 cd42 ct42 oc43 kV43 dc43 pm43 cd43 ct43 oc44 kV44 dc44 pm44 cd44 ct44 oc45 kV45 dc45 pm45 cd45 ct45 oc46 kV46 dc46 pm46 cd46 ct46 oc47 kV47 dc47 pm47 cd47 ct47 oc48 kV48 dc48 pm48 cd48 ct48 oc49 kV49 dc49 pm49 cd49 ct49 oc50 kV50 dc50 pm50 cd50 ct50 oc51 kV51 dc51 pm51 cd51 ct51 oc52 kV52 dc52 pm52 cd52 ct52 oc53 kV53 dc53 pm53 cd53 ct53 oc54 kV54 dc54 pm54 cd54 ct54 oc55 kV55 dc55 pm55 cd55 ct55 oc56 kV56 dc56 pm56 cd56 ct56 oc57 kV57 dc57 pm57 cd57 ct57 oc58 kV58 dc58 pm58 cd58 ct58 : Value}
    (a0 : PySem.W.nsIn K mainGlobals "bezout" = some (some (.ref f0))) (l0 : K.lookup f0 = some ⟨oc0, od0, .func (PySem.W.fnOf "bezout" "bezout" (defArgs sBezout) (defBody sBezout) (defScope sBezout) .none kV0 dc0 pm0 an0 cd0 ct0), sl0⟩) (c0 : PySem.W.codeIn K cd0 "bezout" = true) (k0 : PySem.W.keepIn K (.ref f0) = true)
    (a1 : PySem.W.nsIn K mainGlobals "measure" = some (some (.ref f1))) (l1 : K.lookup f1 = some ⟨oc1, od1, .func (PySem.W.fnOf "measure" "measure" (defArgs sMeasure) (defBody sMeasure) (defScope sMeasure) .none kV1 dc1 pm1 an1 cd1 ct1), sl1⟩) (c1 : PySem.W.codeIn K cd1 "measure" = true) (k1 : PySem.W.keepIn K (.ref f1) = true)
    (a2 : PySem.W.nsIn K mainGlobals "floor_root" = some (some (.ref f2))) (l2 : K.lookup f2 = some ⟨oc2, od2, .func (PySem.W.fnOf "floor_root" "floor_root" (defArgs sFloorRoot) (defBody sFloorRoot) (defScope sFloorRoot) .none kV2 dc2 pm2 an2 cd2 ct2), sl2⟩) (c2 : PySem.W.codeIn K cd2 "floor_root" = true) (k2 : PySem.W.keepIn K (.ref f2) = true)
    (a3 : PySem.W.nsIn K mainGlobals "is_square" = some (some (.ref f3))) (l3 : K.lookup f3 = some ⟨oc3, od3, .func (PySem.W.fnOf "is_square" "is_square" (defArgs sIsSquare) (defBody sIsSquare) (defScope sIsSquare) .none kV3 dc3 pm3 an3 cd3 ct3), sl3⟩) (c3 : PySem.W.codeIn K cd3 "is_square" = true) (k3 : PySem.W.keepIn K (.ref f3) = true)
    (a4 : PySem.W.nsIn K mainGlobals "power_modulo" = some (some (.ref f4))) (l4 : K.lookup f4 = some ⟨oc4, od4, .func (PySem.W.fnOf "power_modulo" "power_modulo" (defArgs sPowerModulo) (defBody sPowerModulo) (defScope sPowerModulo) .none kV4 dc4 pm4 an4 cd4 ct4), sl4⟩) (c4 : PySem.W.codeIn K cd4 "power_modulo" = true) (k4 : PySem.W.keepIn K (.ref f4) = true)
    (a5 : PySem.W.nsIn K mainGlobals "taken_out" = some (some (.ref f5))) (l5 : K.lookup f5 = some ⟨oc5, od5, .func (PySem.W.fnOf "taken_out" "taken_out" (defArgs sTakenOut) (defBody sTakenOut) (defScope sTakenOut) .none kV5 dc5 pm5 an5 cd5 ct5), sl5⟩) (c5 : PySem.W.codeIn K cd5 "taken_out" = true) (k5 : PySem.W.keepIn K (.ref f5) = true)
    (a6 : PySem.W.nsIn K mainGlobals "is_prime" = some (some (.ref f6))) (l6 : K.lookup f6 = some ⟨oc6, od6, .func (PySem.W.fnOf "is_prime" "is_prime" (defArgs sIsPrime) (defBody sIsPrime) (defScope sIsPrime) .none kV6 dc6 pm6 an6 cd6 ct6), sl6⟩) (c6 : PySem.W.codeIn K cd6 "is_prime" = true) (k6 : PySem.W.keepIn K (.ref f6) = true)
    (a7 : PySem.W.nsIn K mainGlobals "_behaves_as_prime" = some (some (.ref f7))) (l7 : K.lookup f7 = some ⟨oc7, od7, .func (PySem.W.fnOf "_behaves_as_prime" "_behaves_as_prime" (defArgs sBehavesAsPrime) (defBody sBehavesAsPrime) (defScope sBehavesAsPrime) .none kV7 dc7 pm7 an7 cd7 ct7), sl7⟩) (c7 : PySem.W.codeIn K cd7 "_behaves_as_prime" = true) (k7 : PySem.W.keepIn K (.ref f7) = true)
    (a8 : PySem.W.nsIn K mainGlobals "prime_parts" = some (some (.ref f8))) (l8 : K.lookup f8 = some ⟨oc8, od8, .func (PySem.W.fnOf "prime_parts" "prime_parts" (defArgs sPrimeParts) (defBody sPrimeParts) (defScope sPrimeParts) .none kV8 dc8 pm8 an8 cd8 ct8), sl8⟩) (c8 : PySem.W.codeIn K cd8 "prime_parts" = true) (k8 : PySem.W.keepIn K (.ref f8) = true)
    (a9 : PySem.W.nsIn K mainGlobals "_least_measure" = some (some (.ref f9))) (l9 : K.lookup f9 = some ⟨oc9, od9, .func (PySem.W.fnOf "_least_measure" "_least_measure" (defArgs sLeastMeasure) (defBody sLeastMeasure) (defScope sLeastMeasure) .none kV9 dc9 pm9 an9 cd9 ct9), sl9⟩) (c9 : PySem.W.codeIn K cd9 "_least_measure" = true) (k9 : PySem.W.keepIn K (.ref f9) = true)
    (a10 : PySem.W.nsIn K mainGlobals "discriminant" = some (some (.ref f10))) (l10 : K.lookup f10 = some ⟨oc10, od10, .func (PySem.W.fnOf "discriminant" "discriminant" (defArgs sDiscriminant) (defBody sDiscriminant) (defScope sDiscriminant) .none kV10 dc10 pm10 an10 cd10 ct10), sl10⟩) (c10 : PySem.W.codeIn K cd10 "discriminant" = true) (k10 : PySem.W.keepIn K (.ref f10) = true)
    (a11 : PySem.W.nsIn K mainGlobals "content" = some (some (.ref f11))) (l11 : K.lookup f11 = some ⟨oc11, od11, .func (PySem.W.fnOf "content" "content" (defArgs sContent) (defBody sContent) (defScope sContent) .none kV11 dc11 pm11 an11 cd11 ct11), sl11⟩) (c11 : PySem.W.codeIn K cd11 "content" = true) (k11 : PySem.W.keepIn K (.ref f11) = true)
    (a12 : PySem.W.nsIn K mainGlobals "worth" = some (some (.ref f12))) (l12 : K.lookup f12 = some ⟨oc12, od12, .func (PySem.W.fnOf "worth" "worth" (defArgs sWorth) (defBody sWorth) (defScope sWorth) .none kV12 dc12 pm12 an12 cd12 ct12), sl12⟩) (c12 : PySem.W.codeIn K cd12 "worth" = true) (k12 : PySem.W.keepIn K (.ref f12) = true)
    (a13 : PySem.W.nsIn K mainGlobals "act" = some (some (.ref f13))) (l13 : K.lookup f13 = some ⟨oc13, od13, .func (PySem.W.fnOf "act" "act" (defArgs sAct) (defBody sAct) (defScope sAct) .none kV13 dc13 pm13 an13 cd13 ct13), sl13⟩) (c13 : PySem.W.codeIn K cd13 "act" = true) (k13 : PySem.W.keepIn K (.ref f13) = true)
    (a14 : PySem.W.nsIn K mainGlobals "scaled" = some (some (.ref f14))) (l14 : K.lookup f14 = some ⟨oc14, od14, .func (PySem.W.fnOf "scaled" "scaled" (defArgs sScaled) (defBody sScaled) (defScope sScaled) .none kV14 dc14 pm14 an14 cd14 ct14), sl14⟩) (c14 : PySem.W.codeIn K cd14 "scaled" = true) (k14 : PySem.W.keepIn K (.ref f14) = true)
    (a15 : PySem.W.nsIn K mainGlobals "kind" = some (some (.ref f15))) (l15 : K.lookup f15 = some ⟨oc15, od15, .func (PySem.W.fnOf "kind" "kind" (defArgs sKind) (defBody sKind) (defScope sKind) .none kV15 dc15 pm15 an15 cd15 ct15), sl15⟩) (c15 : PySem.W.codeIn K cd15 "kind" = true) (k15 : PySem.W.keepIn K (.ref f15) = true)
    (a16 : PySem.W.nsIn K mainGlobals "point_apart" = some (some (.ref f16))) (l16 : K.lookup f16 = some ⟨oc16, od16, .func (PySem.W.fnOf "point_apart" "point_apart" (defArgs sPointApart) (defBody sPointApart) (defScope sPointApart) .none kV16 dc16 pm16 an16 cd16 ct16), sl16⟩) (c16 : PySem.W.codeIn K cd16 "point_apart" = true) (k16 : PySem.W.keepIn K (.ref f16) = true)
    (a17 : PySem.W.nsIn K mainGlobals "multiply" = some (some (.ref f17))) (l17 : K.lookup f17 = some ⟨oc17, od17, .func (PySem.W.fnOf "multiply" "multiply" (defArgs sMultiply) (defBody sMultiply) (defScope sMultiply) .none kV17 dc17 pm17 an17 cd17 ct17), sl17⟩) (c17 : PySem.W.codeIn K cd17 "multiply" = true) (k17 : PySem.W.keepIn K (.ref f17) = true)
    (a18 : PySem.W.nsIn K mainGlobals "determinant" = some (some (.ref f18))) (l18 : K.lookup f18 = some ⟨oc18, od18, .func (PySem.W.fnOf "determinant" "determinant" (defArgs sDeterminant) (defBody sDeterminant) (defScope sDeterminant) .none kV18 dc18 pm18 an18 cd18 ct18), sl18⟩) (c18 : PySem.W.codeIn K cd18 "determinant" = true) (k18 : PySem.W.keepIn K (.ref f18) = true)
    (a19 : PySem.W.nsIn K mainGlobals "negative" = some (some (.ref f19))) (l19 : K.lookup f19 = some ⟨oc19, od19, .func (PySem.W.fnOf "negative" "negative" (defArgs sNegative) (defBody sNegative) (defScope sNegative) .none kV19 dc19 pm19 an19 cd19 ct19), sl19⟩) (c19 : PySem.W.codeIn K cd19 "negative" = true) (k19 : PySem.W.keepIn K (.ref f19) = true)
    (a20 : PySem.W.nsIn K mainGlobals "inverse" = some (some (.ref f20))) (l20 : K.lookup f20 = some ⟨oc20, od20, .func (PySem.W.fnOf "inverse" "inverse" (defArgs sInverse) (defBody sInverse) (defScope sInverse) .none kV20 dc20 pm20 an20 cd20 ct20), sl20⟩) (c20 : PySem.W.codeIn K cd20 "inverse" = true) (k20 : PySem.W.keepIn K (.ref f20) = true)
    (a21 : PySem.W.nsIn K mainGlobals "completed" = some (some (.ref f21))) (l21 : K.lookup f21 = some ⟨oc21, od21, .func (PySem.W.fnOf "completed" "completed" (defArgs sCompleted) (defBody sCompleted) (defScope sCompleted) .none kV21 dc21 pm21 an21 cd21 ct21), sl21⟩) (c21 : PySem.W.codeIn K cd21 "completed" = true) (k21 : PySem.W.keepIn K (.ref f21) = true)
    (a22 : PySem.W.nsIn K mainGlobals "is_reduced_definite" = some (some (.ref f22))) (l22 : K.lookup f22 = some ⟨oc22, od22, .func (PySem.W.fnOf "is_reduced" "is_reduced" (defArgs sIsReducedDefinite) (defBody sIsReducedDefinite) (defScope sIsReducedDefinite) .none kV22 dc22 pm22 an22 cd22 ct22), sl22⟩) (c22 : PySem.W.codeIn K cd22 "is_reduced" = true) (k22 : PySem.W.keepIn K (.ref f22) = true)
    (a23 : PySem.W.nsIn K mainGlobals "reduce_definite" = some (some (.ref f23))) (l23 : K.lookup f23 = some ⟨oc23, od23, .func (PySem.W.fnOf "reduce_definite" "reduce_definite" (defArgs sReduceDefinite) (defBody sReduceDefinite) (defScope sReduceDefinite) .none kV23 dc23 pm23 an23 cd23 ct23), sl23⟩) (c23 : PySem.W.codeIn K cd23 "reduce_definite" = true) (k23 : PySem.W.keepIn K (.ref f23) = true)
    (a24 : PySem.W.nsIn K mainGlobals "_step_down" = some (some (.ref f24))) (l24 : K.lookup f24 = some ⟨oc24, od24, .func (PySem.W.fnOf "_step_down" "_step_down" (defArgs sStepDown) (defBody sStepDown) (defScope sStepDown) .none kV24 dc24 pm24 an24 cd24 ct24), sl24⟩) (c24 : PySem.W.codeIn K cd24 "_step_down" = true) (k24 : PySem.W.keepIn K (.ref f24) = true)
    (a25 : PySem.W.nsIn K mainGlobals "positive_classes" = some (some (.ref f25))) (l25 : K.lookup f25 = some ⟨oc25, od25, .func (PySem.W.fnOf "positive_classes" "positive_classes" (defArgs sPositiveClasses) (defBody sPositiveClasses) (defScope sPositiveClasses) .none kV25 dc25 pm25 an25 cd25 ct25), sl25⟩) (c25 : PySem.W.codeIn K cd25 "positive_classes" = true) (k25 : PySem.W.keepIn K (.ref f25) = true)
    (a26 : PySem.W.nsIn K mainGlobals "is_reduced_indefinite" = some (some (.ref f26))) (l26 : K.lookup f26 = some ⟨oc26, od26, .func (PySem.W.fnOf "is_reduced" "is_reduced" (defArgs sIsReducedIndefinite) (defBody sIsReducedIndefinite) (defScope sIsReducedIndefinite) .none kV26 dc26 pm26 an26 cd26 ct26), sl26⟩) (c26 : PySem.W.codeIn K cd26 "is_reduced" = true) (k26 : PySem.W.keepIn K (.ref f26) = true)
    (a27 : PySem.W.nsIn K mainGlobals "reduce_indefinite" = some (some (.ref f27))) (l27 : K.lookup f27 = some ⟨oc27, od27, .func (PySem.W.fnOf "reduce_indefinite" "reduce_indefinite" (defArgs sReduceIndefinite) (defBody sReduceIndefinite) (defScope sReduceIndefinite) .none kV27 dc27 pm27 an27 cd27 ct27), sl27⟩) (c27 : PySem.W.codeIn K cd27 "reduce_indefinite" = true) (k27 : PySem.W.keepIn K (.ref f27) = true)
    (a28 : PySem.W.nsIn K mainGlobals "_step_near" = some (some (.ref f28))) (l28 : K.lookup f28 = some ⟨oc28, od28, .func (PySem.W.fnOf "_step_near" "_step_near" (defArgs sStepNear) (defBody sStepNear) (defScope sStepNear) .none kV28 dc28 pm28 an28 cd28 ct28), sl28⟩) (c28 : PySem.W.codeIn K cd28 "_step_near" = true) (k28 : PySem.W.keepIn K (.ref f28) = true)
    (a29 : PySem.W.nsIn K mainGlobals "step_of" = some (some (.ref f29))) (l29 : K.lookup f29 = some ⟨oc29, od29, .func (PySem.W.fnOf "step_of" "step_of" (defArgs sStepOf) (defBody sStepOf) (defScope sStepOf) .none kV29 dc29 pm29 an29 cd29 ct29), sl29⟩) (c29 : PySem.W.codeIn K cd29 "step_of" = true) (k29 : PySem.W.keepIn K (.ref f29) = true)
    (a30 : PySem.W.nsIn K mainGlobals "cycle" = some (some (.ref f30))) (l30 : K.lookup f30 = some ⟨oc30, od30, .func (PySem.W.fnOf "cycle" "cycle" (defArgs sCycle) (defBody sCycle) (defScope sCycle) .none kV30 dc30 pm30 an30 cd30 ct30), sl30⟩) (c30 : PySem.W.codeIn K cd30 "cycle" = true) (k30 : PySem.W.keepIn K (.ref f30) = true)
    (a31 : PySem.W.nsIn K mainGlobals "canonical" = some (some (.ref f31))) (l31 : K.lookup f31 = some ⟨oc31, od31, .func (PySem.W.fnOf "canonical" "canonical" (defArgs sCanonical) (defBody sCanonical) (defScope sCanonical) .none kV31 dc31 pm31 an31 cd31 ct31), sl31⟩) (c31 : PySem.W.codeIn K cd31 "canonical" = true) (k31 : PySem.W.keepIn K (.ref f31) = true)
    (a32 : PySem.W.nsIn K mainGlobals "zero_lines" = some (some (.ref f32))) (l32 : K.lookup f32 = some ⟨oc32, od32, .func (PySem.W.fnOf "zero_lines" "zero_lines" (defArgs sZeroLines) (defBody sZeroLines) (defScope sZeroLines) .none kV32 dc32 pm32 an32 cd32 ct32), sl32⟩) (c32 : PySem.W.codeIn K cd32 "zero_lines" = true) (k32 : PySem.W.keepIn K (.ref f32) = true)
    (a33 : PySem.W.nsIn K mainGlobals "directed" = some (some (.ref f33))) (l33 : K.lookup f33 = some ⟨oc33, od33, .func (PySem.W.fnOf "directed" "directed" (defArgs sDirected) (defBody sDirected) (defScope sDirected) .none kV33 dc33 pm33 an33 cd33 ct33), sl33⟩) (c33 : PySem.W.codeIn K cd33 "directed" = true) (k33 : PySem.W.keepIn K (.ref f33) = true)
    (a34 : PySem.W.nsIn K mainGlobals "canonical_split" = some (some (.ref f34))) (l34 : K.lookup f34 = some ⟨oc34, od34, .func (PySem.W.fnOf "canonical_split" "canonical_split" (defArgs sCanonicalSplit) (defBody sCanonicalSplit) (defScope sCanonicalSplit) .none kV34 dc34 pm34 an34 cd34 ct34), sl34⟩) (c34 : PySem.W.codeIn K cd34 "canonical_split" = true) (k34 : PySem.W.keepIn K (.ref f34) = true)
    (a35 : PySem.W.nsIn K mainGlobals "flat_parts" = some (some (.ref f35))) (l35 : K.lookup f35 = some ⟨oc35, od35, .func (PySem.W.fnOf "flat_parts" "flat_parts" (defArgs sFlatParts) (defBody sFlatParts) (defScope sFlatParts) .none kV35 dc35 pm35 an35 cd35 ct35), sl35⟩) (c35 : PySem.W.codeIn K cd35 "flat_parts" = true) (k35 : PySem.W.keepIn K (.ref f35) = true)
    (a36 : PySem.W.nsIn K mainGlobals "canonical_flat" = some (some (.ref f36))) (l36 : K.lookup f36 = some ⟨oc36, od36, .func (PySem.W.fnOf "canonical_flat" "canonical_flat" (defArgs sCanonicalFlat) (defBody sCanonicalFlat) (defScope sCanonicalFlat) .none kV36 dc36 pm36 an36 cd36 ct36), sl36⟩) (c36 : PySem.W.codeIn K cd36 "canonical_flat" = true) (k36 : PySem.W.keepIn K (.ref f36) = true)
    (a37 : PySem.W.nsIn K mainGlobals "canonical_form" = some (some (.ref f37))) (l37 : K.lookup f37 = some ⟨oc37, od37, .func (PySem.W.fnOf "canonical_form" "canonical_form" (defArgs sCanonicalForm) (defBody sCanonicalForm) (defScope sCanonicalForm) .none kV37 dc37 pm37 an37 cd37 ct37), sl37⟩) (c37 : PySem.W.codeIn K cd37 "canonical_form" = true) (k37 : PySem.W.keepIn K (.ref f37) = true)
    (a38 : PySem.W.nsIn K mainGlobals "classes" = some (some (.ref f38))) (l38 : K.lookup f38 = some ⟨oc38, od38, .func (PySem.W.fnOf "classes" "classes" (defArgs sClasses) (defBody sClasses) (defScope sClasses) .none kV38 dc38 pm38 an38 cd38 ct38), sl38⟩) (c38 : PySem.W.codeIn K cd38 "classes" = true) (k38 : PySem.W.keepIn K (.ref f38) = true)
    (a39 : PySem.W.nsIn K mainGlobals "_reduced_forms" = some (some (.ref f39))) (l39 : K.lookup f39 = some ⟨oc39, od39, .func (PySem.W.fnOf "_reduced_forms" "_reduced_forms" (defArgs sReducedForms) (defBody sReducedForms) (defScope sReducedForms) .none kV39 dc39 pm39 an39 cd39 ct39), sl39⟩) (c39 : PySem.W.codeIn K cd39 "_reduced_forms" = true) (k39 : PySem.W.keepIn K (.ref f39) = true)
    (a40 : PySem.W.nsIn K mainGlobals "principal" = some (some (.ref f40))) (l40 : K.lookup f40 = some ⟨oc40, od40, .func (PySem.W.fnOf "principal" "principal" (defArgs sPrincipal) (defBody sPrincipal) (defScope sPrincipal) .none kV40 dc40 pm40 an40 cd40 ct40), sl40⟩) (c40 : PySem.W.codeIn K cd40 "principal" = true) (k40 : PySem.W.keepIn K (.ref f40) = true)
    (a41 : PySem.W.nsIn K mainGlobals "opposite" = some (some (.ref f41))) (l41 : K.lookup f41 = some ⟨oc41, od41, .func (PySem.W.fnOf "opposite" "opposite" (defArgs sOpposite) (defBody sOpposite) (defScope sOpposite) .none kV41 dc41 pm41 an41 cd41 ct41), sl41⟩) (c41 : PySem.W.codeIn K cd41 "opposite" = true) (k41 : PySem.W.keepIn K (.ref f41) = true)
    (a42 : PySem.W.nsIn K mainGlobals "compose" = some (some (.ref f42))) (l42 : K.lookup f42 = some ⟨oc42, od42, .func (PySem.W.fnOf "compose" "compose" (defArgs sCompose) (defBody sCompose) (defScope sCompose) .none kV42 dc42 pm42 an42 cd42 ct42), sl42⟩) (c42 : PySem.W.codeIn K cd42 "compose" = true) (k42 : PySem.W.keepIn K (.ref f42) = true)
    (a43 : PySem.W.nsIn K mainGlobals "_uniting_steps" = some (some (.ref f43))) (l43 : K.lookup f43 = some ⟨oc43, od43, .func (PySem.W.fnOf "_uniting_steps" "_uniting_steps" (defArgs sUnitingSteps) (defBody sUnitingSteps) (defScope sUnitingSteps) .none kV43 dc43 pm43 an43 cd43 ct43), sl43⟩) (c43 : PySem.W.codeIn K cd43 "_uniting_steps" = true) (k43 : PySem.W.keepIn K (.ref f43) = true)
    (a44 : PySem.W.nsIn K mainGlobals "_row_before" = some (some (.ref f44))) (l44 : K.lookup f44 = some ⟨oc44, od44, .func (PySem.W.fnOf "_row_before" "_row_before" (defArgs sRowBefore) (defBody sRowBefore) (defScope sRowBefore) .none kV44 dc44 pm44 an44 cd44 ct44), sl44⟩) (c44 : PySem.W.codeIn K cd44 "_row_before" = true) (k44 : PySem.W.keepIn K (.ref f44) = true)
    (a45 : PySem.W.nsIn K mainGlobals "_sum_of_rows" = some (some (.ref f45))) (l45 : K.lookup f45 = some ⟨oc45, od45, .func (PySem.W.fnOf "_sum_of_rows" "_sum_of_rows" (defArgs sSumOfRows) (defBody sSumOfRows) (defScope sSumOfRows) .none kV45 dc45 pm45 an45 cd45 ct45), sl45⟩) (c45 : PySem.W.codeIn K cd45 "_sum_of_rows" = true) (k45 : PySem.W.keepIn K (.ref f45) = true)
    (a46 : PySem.W.nsIn K mainGlobals "class_power" = some (some (.ref f46))) (l46 : K.lookup f46 = some ⟨oc46, od46, .func (PySem.W.fnOf "class_power" "class_power" (defArgs sClassPower) (defBody sClassPower) (defScope sClassPower) .none kV46 dc46 pm46 an46 cd46 ct46), sl46⟩) (c46 : PySem.W.codeIn K cd46 "class_power" = true) (k46 : PySem.W.keepIn K (.ref f46) = true)
    (a47 : PySem.W.nsIn K mainGlobals "class_order" = some (some (.ref f47))) (l47 : K.lookup f47 = some ⟨oc47, od47, .func (PySem.W.fnOf "class_order" "class_order" (defArgs sClassOrder) (defBody sClassOrder) (defScope sClassOrder) .none kV47 dc47 pm47 an47 cd47 ct47), sl47⟩) (c47 : PySem.W.codeIn K cd47 "class_order" = true) (k47 : PySem.W.keepIn K (.ref f47) = true)
    (a48 : PySem.W.nsIn K mainGlobals "_law_cell" = some (some (.ref f48))) (l48 : K.lookup f48 = some ⟨oc48, od48, .func (PySem.W.fnOf "_law_cell" "_law_cell" (defArgs sLawCell) (defBody sLawCell) (defScope sLawCell) .none kV48 dc48 pm48 an48 cd48 ct48), sl48⟩) (c48 : PySem.W.codeIn K cd48 "_law_cell" = true) (k48 : PySem.W.keepIn K (.ref f48) = true)
    (a49 : PySem.W.nsIn K mainGlobals "_law_numbers" = some (some (.ref f49))) (l49 : K.lookup f49 = some ⟨oc49, od49, .func (PySem.W.fnOf "_law_numbers" "_law_numbers" (defArgs sLawNumbers) (defBody sLawNumbers) (defScope sLawNumbers) .none kV49 dc49 pm49 an49 cd49 ct49), sl49⟩) (c49 : PySem.W.codeIn K cd49 "_law_numbers" = true) (k49 : PySem.W.keepIn K (.ref f49) = true)
    (a50 : PySem.W.nsIn K mainGlobals "_law_state" = some (some (.ref f50))) (l50 : K.lookup f50 = some ⟨oc50, od50, .func (PySem.W.fnOf "_law_state" "_law_state" (defArgs sLawState) (defBody sLawState) (defScope sLawState) .none kV50 dc50 pm50 an50 cd50 ct50), sl50⟩) (c50 : PySem.W.codeIn K cd50 "_law_state" = true) (k50 : PySem.W.keepIn K (.ref f50) = true)
    (a51 : PySem.W.nsIn K mainGlobals "_law_next" = some (some (.ref f51))) (l51 : K.lookup f51 = some ⟨oc51, od51, .func (PySem.W.fnOf "_law_next" "_law_next" (defArgs sLawNext) (defBody sLawNext) (defScope sLawNext) .none kV51 dc51 pm51 an51 cd51 ct51), sl51⟩) (c51 : PySem.W.codeIn K cd51 "_law_next" = true) (k51 : PySem.W.keepIn K (.ref f51) = true)
    (a52 : PySem.W.nsIn K mainGlobals "_law_root" = some (some (.ref f52))) (l52 : K.lookup f52 = some ⟨oc52, od52, .func (PySem.W.fnOf "_law_root" "_law_root" (defArgs sLawRoot) (defBody sLawRoot) (defScope sLawRoot) .none kV52 dc52 pm52 an52 cd52 ct52), sl52⟩) (c52 : PySem.W.codeIn K cd52 "_law_root" = true) (k52 : PySem.W.keepIn K (.ref f52) = true)
    (a53 : PySem.W.nsIn K mainGlobals "_law_mul" = some (some (.ref f53))) (l53 : K.lookup f53 = some ⟨oc53, od53, .func (PySem.W.fnOf "_law_mul" "_law_mul" (defArgs sLawMul) (defBody sLawMul) (defScope sLawMul) .none kV53 dc53 pm53 an53 cd53 ct53), sl53⟩) (c53 : PySem.W.codeIn K cd53 "_law_mul" = true) (k53 : PySem.W.keepIn K (.ref f53) = true)
    (a54 : PySem.W.nsIn K mainGlobals "_law_worth" = some (some (.ref f54))) (l54 : K.lookup f54 = some ⟨oc54, od54, .func (PySem.W.fnOf "_law_worth" "_law_worth" (defArgs sLawWorth) (defBody sLawWorth) (defScope sLawWorth) .none kV54 dc54 pm54 an54 cd54 ct54), sl54⟩) (c54 : PySem.W.codeIn K cd54 "_law_worth" = true) (k54 : PySem.W.keepIn K (.ref f54) = true)
    (a55 : PySem.W.nsIn K mainGlobals "_law_act" = some (some (.ref f55))) (l55 : K.lookup f55 = some ⟨oc55, od55, .func (PySem.W.fnOf "_law_act" "_law_act" (defArgs sLawAct) (defBody sLawAct) (defScope sLawAct) .none kV55 dc55 pm55 an55 cd55 ct55), sl55⟩) (c55 : PySem.W.codeIn K cd55 "_law_act" = true) (k55 : PySem.W.keepIn K (.ref f55) = true)
    (a56 : PySem.W.nsIn K mainGlobals "_law_change" = some (some (.ref f56))) (l56 : K.lookup f56 = some ⟨oc56, od56, .func (PySem.W.fnOf "_law_change" "_law_change" (defArgs sLawChange) (defBody sLawChange) (defScope sLawChange) .none kV56 dc56 pm56 an56 cd56 ct56), sl56⟩) (c56 : PySem.W.codeIn K cd56 "_law_change" = true) (k56 : PySem.W.keepIn K (.ref f56) = true)
    (a57 : PySem.W.nsIn K mainGlobals "_law_square" = some (some (.ref f57))) (l57 : K.lookup f57 = some ⟨oc57, od57, .func (PySem.W.fnOf "_law_square" "_law_square" (defArgs sLawSquare) (defBody sLawSquare) (defScope sLawSquare) .none kV57 dc57 pm57 an57 cd57 ct57), sl57⟩) (c57 : PySem.W.codeIn K cd57 "_law_square" = true) (k57 : PySem.W.keepIn K (.ref f57) = true)
    (a58 : PySem.W.nsIn K mainGlobals "law" = some (some (.ref f58))) (l58 : K.lookup f58 = some ⟨oc58, od58, .func (PySem.W.fnOf "law" "law" (defArgs sLaw) (defBody sLaw) (defScope sLaw) .none kV58 dc58 pm58 an58 cd58 ct58), sl58⟩) (c58 : PySem.W.codeIn K cd58 "law" = true) (k58 : PySem.W.keepIn K (.ref f58) = true)
    (z0 : PySem.W.nsIn K mainGlobals "abs" = some none)
    (z1 : PySem.W.nsIn K mainGlobals "int" = some none)
    (z2 : PySem.W.nsIn K mainGlobals "len" = some none)
    (z3 : PySem.W.nsIn K mainGlobals "max" = some none)
    (z4 : PySem.W.nsIn K mainGlobals "min" = some none)
    (z5 : PySem.W.nsIn K mainGlobals "range" = some none)
    (z6 : PySem.W.nsIn K mainGlobals "set" = some none)
    (z7 : PySem.W.nsIn K mainGlobals "tuple" = some none)
    (z8 : PySem.W.nsIn K mainGlobals "zip" = some none)
    (i0 : PySem.W.nsIn K mainGlobals "gcd" = some (some (.builtin "math.gcd")))
    (i1 : PySem.W.nsIn K mainGlobals "isqrt" = some (some (.builtin "math.isqrt")))
    {fw0 : Addr} {odw0 : Option Addr} {itw0 : Array Value} {nw0 : Nat} {slw0 : Array (Option Value)}
    (w0 : PySem.W.nsIn K mainGlobals "WITNESSES" = some (some (.ref fw0))) (x0 : K.lookup fw0 = some ⟨.type "tuple", odw0, .seq itw0 nw0, slw0⟩) (y0 : itw0.size ≤ sizeLine) (v0 : Vals [.int 2, .int 3, .int 5, .int 7, .int 11, .int 13, .int 17, .int 19, .int 23, .int 29, .int 31, .int 37] itw0.toList)
    {fw1 : Addr} {odw1 : Option Addr} {itw1 : Array Value} {nw1 : Nat} {slw1 : Array (Option Value)}
    (w1 : PySem.W.nsIn K mainGlobals "UNIT" = some (some (.ref fw1))) (x1 : K.lookup fw1 = some ⟨.type "tuple", odw1, .seq itw1 nw1, slw1⟩) (y1 : itw1.size ≤ sizeLine) (v1 : Vals [.int 1, .int 0, .int 0, .int 1] itw1.toList)
    : ∃ fd : FuncData, (∀ (s : Shared) (v : Value), BindsTo s fd ⟨[v], []⟩ [("script", v)]) ∧ ∀ base : Heap, K.In base → base.Ns mainGlobals mg → FnOk l.prog w K mg base CX0 21 f fd ["script"] (spLaw K) := by
  have e := hfa.symm.trans (PySem.W.mg_of X G a58)
  cases e
  have F0 := fun_mk (st := sBezout) l0 c0 k0
  have F1 := fun_mk (st := sMeasure) l1 c1 k1
  have F2 := fun_mk (st := sFloorRoot) l2 c2 k2
  have F3 := fun_mk (st := sIsSquare) l3 c3 k3
  have F4 := fun_mk (st := sPowerModulo) l4 c4 k4
  have F5 := fun_mk (st := sTakenOut) l5 c5 k5
  have F6 := fun_mk (st := sIsPrime) l6 c6 k6
  have F7 := fun_mk (st := sBehavesAsPrime) l7 c7 k7
  have F8 := fun_mk (st := sPrimeParts) l8 c8 k8
  have F9 := fun_mk (st := sLeastMeasure) l9 c9 k9
  have F10 := fun_mk (st := sDiscriminant) l10 c10 k10
  have F11 := fun_mk (st := sContent) l11 c11 k11
  have F12 := fun_mk (st := sWorth) l12 c12 k12
  have F13 := fun_mk (st := sAct) l13 c13 k13
  have F14 := fun_mk (st := sScaled) l14 c14 k14
  have F15 := fun_mk (st := sKind) l15 c15 k15
  have F16 := fun_mk (st := sPointApart) l16 c16 k16
  have F17 := fun_mk (st := sMultiply) l17 c17 k17
  have F18 := fun_mk (st := sDeterminant) l18 c18 k18
  have F19 := fun_mk (st := sNegative) l19 c19 k19
  have F20 := fun_mk (st := sInverse) l20 c20 k20
  have F21 := fun_mk (st := sCompleted) l21 c21 k21
  have F22 := fun_mk (st := sIsReducedDefinite) l22 c22 k22
  have F23 := fun_mk (st := sReduceDefinite) l23 c23 k23
  have F24 := fun_mk (st := sStepDown) l24 c24 k24
  have F25 := fun_mk (st := sPositiveClasses) l25 c25 k25
  have F26 := fun_mk (st := sIsReducedIndefinite) l26 c26 k26
  have F27 := fun_mk (st := sReduceIndefinite) l27 c27 k27
  have F28 := fun_mk (st := sStepNear) l28 c28 k28
  have F29 := fun_mk (st := sStepOf) l29 c29 k29
  have F30 := fun_mk (st := sCycle) l30 c30 k30
  have F31 := fun_mk (st := sCanonical) l31 c31 k31
  have F32 := fun_mk (st := sZeroLines) l32 c32 k32
  have F33 := fun_mk (st := sDirected) l33 c33 k33
  have F34 := fun_mk (st := sCanonicalSplit) l34 c34 k34
  have F35 := fun_mk (st := sFlatParts) l35 c35 k35
  have F36 := fun_mk (st := sCanonicalFlat) l36 c36 k36
  have F37 := fun_mk (st := sCanonicalForm) l37 c37 k37
  have F38 := fun_mk (st := sClasses) l38 c38 k38
  have F39 := fun_mk (st := sReducedForms) l39 c39 k39
  have F40 := fun_mk (st := sPrincipal) l40 c40 k40
  have F41 := fun_mk (st := sOpposite) l41 c41 k41
  have F42 := fun_mk (st := sCompose) l42 c42 k42
  have F43 := fun_mk (st := sUnitingSteps) l43 c43 k43
  have F44 := fun_mk (st := sRowBefore) l44 c44 k44
  have F45 := fun_mk (st := sSumOfRows) l45 c45 k45
  have F46 := fun_mk (st := sClassPower) l46 c46 k46
  have F47 := fun_mk (st := sClassOrder) l47 c47 k47
  have F48 := fun_mk (st := sLawCell) l48 c48 k48
  have F49 := fun_mk (st := sLawNumbers) l49 c49 k49
  have F50 := fun_mk (st := sLawState) l50 c50 k50
  have F51 := fun_mk (st := sLawNext) l51 c51 k51
  have F52 := fun_mk (st := sLawRoot) l52 c52 k52
  have F53 := fun_mk (st := sLawMul) l53 c53 k53
  have F54 := fun_mk (st := sLawWorth) l54 c54 k54
  have F55 := fun_mk (st := sLawAct) l55 c55 k55
  have F56 := fun_mk (st := sLawChange) l56 c56 k56
  have F57 := fun_mk (st := sLawSquare) l57 c57 k57
  have F58 := fun_mk (st := sLaw) l58 c58 k58
  have b0 := F0.binds (ps := ["a", "b"]) fun _ _ _ _ _ _ us hl => match us, hl with | [_, _], _ => rfl
  have b1 := F1.binds (ps := ["numbers"]) fun _ _ _ _ _ _ us hl => match us, hl with | [_], _ => rfl
  have b2 := F2.binds (ps := ["n"]) fun _ _ _ _ _ _ us hl => match us, hl with | [_], _ => rfl
  have b3 := F3.binds (ps := ["n"]) fun _ _ _ _ _ _ us hl => match us, hl with | [_], _ => rfl
  have b4 := F4.binds (ps := ["base", "many", "modulus"]) fun _ _ _ _ _ _ us hl => match us, hl with | [_, _, _], _ => rfl
  have b5 := F5.binds (ps := ["n", "p"]) fun _ _ _ _ _ _ us hl => match us, hl with | [_, _], _ => rfl
  have b6 := F6.binds (ps := ["n"]) fun _ _ _ _ _ _ us hl => match us, hl with | [_], _ => rfl
  have b7 := F7.binds (ps := ["n", "base", "many", "odd"]) fun _ _ _ _ _ _ us hl => match us, hl with | [_, _, _, _], _ => rfl
  have b8 := F8.binds (ps := ["n"]) fun _ _ _ _ _ _ us hl => match us, hl with | [_], _ => rfl
  have b9 := F9.binds (ps := ["n", "start"]) fun _ _ _ _ _ _ us hl => match us, hl with | [_, _], _ => rfl
  have b10 := F10.binds (ps := ["form"]) fun _ _ _ _ _ _ us hl => match us, hl with | [_], _ => rfl
  have b11 := F11.binds (ps := ["form"]) fun _ _ _ _ _ _ us hl => match us, hl with | [_], _ => rfl
  have b12 := F12.binds (ps := ["form", "point"]) fun _ _ _ _ _ _ us hl => match us, hl with | [_, _], _ => rfl
  have b13 := F13.binds (ps := ["form", "m"]) fun _ _ _ _ _ _ us hl => match us, hl with | [_, _], _ => rfl
  have b14 := F14.binds (ps := ["form", "number"]) fun _ _ _ _ _ _ us hl => match us, hl with | [_, _], _ => rfl
  have b15 := F15.binds (ps := ["form"]) fun _ _ _ _ _ _ us hl => match us, hl with | [_], _ => rfl
  have b16 := F16.binds (ps := ["form", "number"]) fun _ _ _ _ _ _ us hl => match us, hl with | [_, _], _ => rfl
  have b17 := F17.binds (ps := ["m", "n"]) fun _ _ _ _ _ _ us hl => match us, hl with | [_, _], _ => rfl
  have b18 := F18.binds (ps := ["m"]) fun _ _ _ _ _ _ us hl => match us, hl with | [_], _ => rfl
  have b19 := F19.binds (ps := ["m"]) fun _ _ _ _ _ _ us hl => match us, hl with | [_], _ => rfl
  have b20 := F20.binds (ps := ["m"]) fun _ _ _ _ _ _ us hl => match us, hl with | [_], _ => rfl
  have b21 := F21.binds (ps := ["point"]) fun _ _ _ _ _ _ us hl => match us, hl with | [_], _ => rfl
  have b22 := F22.binds (ps := ["form"]) fun _ _ _ _ _ _ us hl => match us, hl with | [_], _ => rfl
  have b23 := F23.binds (ps := ["form"]) fun _ _ _ _ _ _ us hl => match us, hl with | [_], _ => rfl
  have b24 := F24.binds (ps := ["form"]) fun _ _ _ _ _ _ us hl => match us, hl with | [_], _ => rfl
  have b25 := F25.binds (ps := ["d"]) fun _ _ _ _ _ _ us hl => match us, hl with | [_], _ => rfl
  have b26 := F26.binds (ps := ["form"]) fun _ _ _ _ _ _ us hl => match us, hl with | [_], _ => rfl
  have b27 := F27.binds (ps := ["form"]) fun _ _ _ _ _ _ us hl => match us, hl with | [_], _ => rfl
  have b28 := F28.binds (ps := ["form"]) fun _ _ _ _ _ _ us hl => match us, hl with | [_], _ => rfl
  have b29 := F29.binds (ps := ["form"]) fun _ _ _ _ _ _ us hl => match us, hl with | [_], _ => rfl
  have b30 := F30.binds (ps := ["form"]) fun _ _ _ _ _ _ us hl => match us, hl with | [_], _ => rfl
  have b31 := F31.binds (ps := ["form"]) fun _ _ _ _ _ _ us hl => match us, hl with | [_], _ => rfl
  have b32 := F32.binds (ps := ["form"]) fun _ _ _ _ _ _ us hl => match us, hl with | [_], _ => rfl
  have b33 := F33.binds (ps := ["x", "y"]) fun _ _ _ _ _ _ us hl => match us, hl with | [_, _], _ => rfl
  have b34 := F34.binds (ps := ["form"]) fun _ _ _ _ _ _ us hl => match us, hl with | [_], _ => rfl
  have b35 := F35.binds (ps := ["form"]) fun _ _ _ _ _ _ us hl => match us, hl with | [_], _ => rfl
  have b36 := F36.binds (ps := ["form"]) fun _ _ _ _ _ _ us hl => match us, hl with | [_], _ => rfl
  have b37 := F37.binds (ps := ["form"]) fun _ _ _ _ _ _ us hl => match us, hl with | [_], _ => rfl
  have b38 := F38.binds (ps := ["d"]) fun _ _ _ _ _ _ us hl => match us, hl with | [_], _ => rfl
  have b39 := F39.binds (ps := ["d"]) fun _ _ _ _ _ _ us hl => match us, hl with | [_], _ => rfl
  have b40 := F40.binds (ps := ["d"]) fun _ _ _ _ _ _ us hl => match us, hl with | [_], _ => rfl
  have b41 := F41.binds (ps := ["form"]) fun _ _ _ _ _ _ us hl => match us, hl with | [_], _ => rfl
  have b42 := F42.binds (ps := ["form", "other"]) fun _ _ _ _ _ _ us hl => match us, hl with | [_, _], _ => rfl
  have b43 := F43.binds (ps := ["form", "other"]) fun _ _ _ _ _ _ us hl => match us, hl with | [_, _], _ => rfl
  have b44 := F44.binds (ps := ["row", "m", "n"]) fun _ _ _ _ _ _ us hl => match us, hl with | [_, _, _], _ => rfl
  have b45 := F45.binds (ps := ["number", "row", "other_number", "other_row"]) fun _ _ _ _ _ _ us hl => match us, hl with | [_, _, _, _], _ => rfl
  have b46 := F46.binds (ps := ["form", "many"]) fun _ _ _ _ _ _ us hl => match us, hl with | [_, _], _ => rfl
  have b47 := F47.binds (ps := ["form"]) fun _ _ _ _ _ _ us hl => match us, hl with | [_], _ => rfl
  have b48 := F48.binds (ps := ["script", "k"]) fun _ _ _ _ _ _ us hl => match us, hl with | [_, _], _ => rfl
  have b49 := F49.binds (ps := ["cell", "many"]) fun _ _ _ _ _ _ us hl => match us, hl with | [_, _], _ => rfl
  have b50 := F50.binds (ps := ["script"]) fun _ _ _ _ _ _ us hl => match us, hl with | [_], _ => rfl
  have b51 := F51.binds (ps := ["state", "many"]) fun _ _ _ _ _ _ us hl => match us, hl with | [_, _], _ => rfl
  have b52 := F52.binds (ps := ["n"]) fun _ _ _ _ _ _ us hl => match us, hl with | [_], _ => rfl
  have b53 := F53.binds (ps := ["m", "n"]) fun _ _ _ _ _ _ us hl => match us, hl with | [_, _], _ => rfl
  have b54 := F54.binds (ps := ["form", "x", "y"]) fun _ _ _ _ _ _ us hl => match us, hl with | [_, _, _], _ => rfl
  have b55 := F55.binds (ps := ["form", "m"]) fun _ _ _ _ _ _ us hl => match us, hl with | [_, _], _ => rfl
  have b56 := F56.binds (ps := ["state", "many"]) fun _ _ _ _ _ _ us hl => match us, hl with | [_, _], _ => rfl
  have b57 := F57.binds (ps := ["n"]) fun _ _ _ _ _ _ us hl => match us, hl with | [_], _ => rfl
  have b58 := F58.binds (ps := ["script"]) fun _ _ _ _ _ _ us hl => match us, hl with | [_], _ => rfl
  let fa : Nat → Addr := fun i => [f0, f1, f2, f3, f4, f5, f6, f7, f8, f9, f10, f11, f12, f13, f14, f15, f16, f17, f18, f19, f20, f21, f22, f23, f24, f25, f26, f27, f28, f29, f30, f31, f32, f33, f34, f35, f36, f37, f38, f39, f40, f41, f42, f43, f44, f45, f46, f47, f48, f49, f50, f51, f52, f53, f54, f55, f56, f57, f, fw0, fw1].getD i 0
  let fd : Nat → FuncData := fun i => match i with
    | 0 => PySem.W.fnOf "bezout" "bezout" (defArgs sBezout) (defBody sBezout) (defScope sBezout) .none kV0 dc0 pm0 an0 cd0 ct0
    | 1 => PySem.W.fnOf "measure" "measure" (defArgs sMeasure) (defBody sMeasure) (defScope sMeasure) .none kV1 dc1 pm1 an1 cd1 ct1
    | 2 => PySem.W.fnOf "floor_root" "floor_root" (defArgs sFloorRoot) (defBody sFloorRoot) (defScope sFloorRoot) .none kV2 dc2 pm2 an2 cd2 ct2
    | 3 => PySem.W.fnOf "is_square" "is_square" (defArgs sIsSquare) (defBody sIsSquare) (defScope sIsSquare) .none kV3 dc3 pm3 an3 cd3 ct3
    | 4 => PySem.W.fnOf "power_modulo" "power_modulo" (defArgs sPowerModulo) (defBody sPowerModulo) (defScope sPowerModulo) .none kV4 dc4 pm4 an4 cd4 ct4
    | 5 => PySem.W.fnOf "taken_out" "taken_out" (defArgs sTakenOut) (defBody sTakenOut) (defScope sTakenOut) .none kV5 dc5 pm5 an5 cd5 ct5
    | 6 => PySem.W.fnOf "is_prime" "is_prime" (defArgs sIsPrime) (defBody sIsPrime) (defScope sIsPrime) .none kV6 dc6 pm6 an6 cd6 ct6
    | 7 => PySem.W.fnOf "_behaves_as_prime" "_behaves_as_prime" (defArgs sBehavesAsPrime) (defBody sBehavesAsPrime) (defScope sBehavesAsPrime) .none kV7 dc7 pm7 an7 cd7 ct7
    | 8 => PySem.W.fnOf "prime_parts" "prime_parts" (defArgs sPrimeParts) (defBody sPrimeParts) (defScope sPrimeParts) .none kV8 dc8 pm8 an8 cd8 ct8
    | 9 => PySem.W.fnOf "_least_measure" "_least_measure" (defArgs sLeastMeasure) (defBody sLeastMeasure) (defScope sLeastMeasure) .none kV9 dc9 pm9 an9 cd9 ct9
    | 10 => PySem.W.fnOf "discriminant" "discriminant" (defArgs sDiscriminant) (defBody sDiscriminant) (defScope sDiscriminant) .none kV10 dc10 pm10 an10 cd10 ct10
    | 11 => PySem.W.fnOf "content" "content" (defArgs sContent) (defBody sContent) (defScope sContent) .none kV11 dc11 pm11 an11 cd11 ct11
    | 12 => PySem.W.fnOf "worth" "worth" (defArgs sWorth) (defBody sWorth) (defScope sWorth) .none kV12 dc12 pm12 an12 cd12 ct12
    | 13 => PySem.W.fnOf "act" "act" (defArgs sAct) (defBody sAct) (defScope sAct) .none kV13 dc13 pm13 an13 cd13 ct13
    | 14 => PySem.W.fnOf "scaled" "scaled" (defArgs sScaled) (defBody sScaled) (defScope sScaled) .none kV14 dc14 pm14 an14 cd14 ct14
    | 15 => PySem.W.fnOf "kind" "kind" (defArgs sKind) (defBody sKind) (defScope sKind) .none kV15 dc15 pm15 an15 cd15 ct15
    | 16 => PySem.W.fnOf "point_apart" "point_apart" (defArgs sPointApart) (defBody sPointApart) (defScope sPointApart) .none kV16 dc16 pm16 an16 cd16 ct16
    | 17 => PySem.W.fnOf "multiply" "multiply" (defArgs sMultiply) (defBody sMultiply) (defScope sMultiply) .none kV17 dc17 pm17 an17 cd17 ct17
    | 18 => PySem.W.fnOf "determinant" "determinant" (defArgs sDeterminant) (defBody sDeterminant) (defScope sDeterminant) .none kV18 dc18 pm18 an18 cd18 ct18
    | 19 => PySem.W.fnOf "negative" "negative" (defArgs sNegative) (defBody sNegative) (defScope sNegative) .none kV19 dc19 pm19 an19 cd19 ct19
    | 20 => PySem.W.fnOf "inverse" "inverse" (defArgs sInverse) (defBody sInverse) (defScope sInverse) .none kV20 dc20 pm20 an20 cd20 ct20
    | 21 => PySem.W.fnOf "completed" "completed" (defArgs sCompleted) (defBody sCompleted) (defScope sCompleted) .none kV21 dc21 pm21 an21 cd21 ct21
    | 22 => PySem.W.fnOf "is_reduced" "is_reduced" (defArgs sIsReducedDefinite) (defBody sIsReducedDefinite) (defScope sIsReducedDefinite) .none kV22 dc22 pm22 an22 cd22 ct22
    | 23 => PySem.W.fnOf "reduce_definite" "reduce_definite" (defArgs sReduceDefinite) (defBody sReduceDefinite) (defScope sReduceDefinite) .none kV23 dc23 pm23 an23 cd23 ct23
    | 24 => PySem.W.fnOf "_step_down" "_step_down" (defArgs sStepDown) (defBody sStepDown) (defScope sStepDown) .none kV24 dc24 pm24 an24 cd24 ct24
    | 25 => PySem.W.fnOf "positive_classes" "positive_classes" (defArgs sPositiveClasses) (defBody sPositiveClasses) (defScope sPositiveClasses) .none kV25 dc25 pm25 an25 cd25 ct25
    | 26 => PySem.W.fnOf "is_reduced" "is_reduced" (defArgs sIsReducedIndefinite) (defBody sIsReducedIndefinite) (defScope sIsReducedIndefinite) .none kV26 dc26 pm26 an26 cd26 ct26
    | 27 => PySem.W.fnOf "reduce_indefinite" "reduce_indefinite" (defArgs sReduceIndefinite) (defBody sReduceIndefinite) (defScope sReduceIndefinite) .none kV27 dc27 pm27 an27 cd27 ct27
    | 28 => PySem.W.fnOf "_step_near" "_step_near" (defArgs sStepNear) (defBody sStepNear) (defScope sStepNear) .none kV28 dc28 pm28 an28 cd28 ct28
    | 29 => PySem.W.fnOf "step_of" "step_of" (defArgs sStepOf) (defBody sStepOf) (defScope sStepOf) .none kV29 dc29 pm29 an29 cd29 ct29
    | 30 => PySem.W.fnOf "cycle" "cycle" (defArgs sCycle) (defBody sCycle) (defScope sCycle) .none kV30 dc30 pm30 an30 cd30 ct30
    | 31 => PySem.W.fnOf "canonical" "canonical" (defArgs sCanonical) (defBody sCanonical) (defScope sCanonical) .none kV31 dc31 pm31 an31 cd31 ct31
    | 32 => PySem.W.fnOf "zero_lines" "zero_lines" (defArgs sZeroLines) (defBody sZeroLines) (defScope sZeroLines) .none kV32 dc32 pm32 an32 cd32 ct32
    | 33 => PySem.W.fnOf "directed" "directed" (defArgs sDirected) (defBody sDirected) (defScope sDirected) .none kV33 dc33 pm33 an33 cd33 ct33
    | 34 => PySem.W.fnOf "canonical_split" "canonical_split" (defArgs sCanonicalSplit) (defBody sCanonicalSplit) (defScope sCanonicalSplit) .none kV34 dc34 pm34 an34 cd34 ct34
    | 35 => PySem.W.fnOf "flat_parts" "flat_parts" (defArgs sFlatParts) (defBody sFlatParts) (defScope sFlatParts) .none kV35 dc35 pm35 an35 cd35 ct35
    | 36 => PySem.W.fnOf "canonical_flat" "canonical_flat" (defArgs sCanonicalFlat) (defBody sCanonicalFlat) (defScope sCanonicalFlat) .none kV36 dc36 pm36 an36 cd36 ct36
    | 37 => PySem.W.fnOf "canonical_form" "canonical_form" (defArgs sCanonicalForm) (defBody sCanonicalForm) (defScope sCanonicalForm) .none kV37 dc37 pm37 an37 cd37 ct37
    | 38 => PySem.W.fnOf "classes" "classes" (defArgs sClasses) (defBody sClasses) (defScope sClasses) .none kV38 dc38 pm38 an38 cd38 ct38
    | 39 => PySem.W.fnOf "_reduced_forms" "_reduced_forms" (defArgs sReducedForms) (defBody sReducedForms) (defScope sReducedForms) .none kV39 dc39 pm39 an39 cd39 ct39
    | 40 => PySem.W.fnOf "principal" "principal" (defArgs sPrincipal) (defBody sPrincipal) (defScope sPrincipal) .none kV40 dc40 pm40 an40 cd40 ct40
    | 41 => PySem.W.fnOf "opposite" "opposite" (defArgs sOpposite) (defBody sOpposite) (defScope sOpposite) .none kV41 dc41 pm41 an41 cd41 ct41
    | 42 => PySem.W.fnOf "compose" "compose" (defArgs sCompose) (defBody sCompose) (defScope sCompose) .none kV42 dc42 pm42 an42 cd42 ct42
    | 43 => PySem.W.fnOf "_uniting_steps" "_uniting_steps" (defArgs sUnitingSteps) (defBody sUnitingSteps) (defScope sUnitingSteps) .none kV43 dc43 pm43 an43 cd43 ct43
    | 44 => PySem.W.fnOf "_row_before" "_row_before" (defArgs sRowBefore) (defBody sRowBefore) (defScope sRowBefore) .none kV44 dc44 pm44 an44 cd44 ct44
    | 45 => PySem.W.fnOf "_sum_of_rows" "_sum_of_rows" (defArgs sSumOfRows) (defBody sSumOfRows) (defScope sSumOfRows) .none kV45 dc45 pm45 an45 cd45 ct45
    | 46 => PySem.W.fnOf "class_power" "class_power" (defArgs sClassPower) (defBody sClassPower) (defScope sClassPower) .none kV46 dc46 pm46 an46 cd46 ct46
    | 47 => PySem.W.fnOf "class_order" "class_order" (defArgs sClassOrder) (defBody sClassOrder) (defScope sClassOrder) .none kV47 dc47 pm47 an47 cd47 ct47
    | 48 => PySem.W.fnOf "_law_cell" "_law_cell" (defArgs sLawCell) (defBody sLawCell) (defScope sLawCell) .none kV48 dc48 pm48 an48 cd48 ct48
    | 49 => PySem.W.fnOf "_law_numbers" "_law_numbers" (defArgs sLawNumbers) (defBody sLawNumbers) (defScope sLawNumbers) .none kV49 dc49 pm49 an49 cd49 ct49
    | 50 => PySem.W.fnOf "_law_state" "_law_state" (defArgs sLawState) (defBody sLawState) (defScope sLawState) .none kV50 dc50 pm50 an50 cd50 ct50
    | 51 => PySem.W.fnOf "_law_next" "_law_next" (defArgs sLawNext) (defBody sLawNext) (defScope sLawNext) .none kV51 dc51 pm51 an51 cd51 ct51
    | 52 => PySem.W.fnOf "_law_root" "_law_root" (defArgs sLawRoot) (defBody sLawRoot) (defScope sLawRoot) .none kV52 dc52 pm52 an52 cd52 ct52
    | 53 => PySem.W.fnOf "_law_mul" "_law_mul" (defArgs sLawMul) (defBody sLawMul) (defScope sLawMul) .none kV53 dc53 pm53 an53 cd53 ct53
    | 54 => PySem.W.fnOf "_law_worth" "_law_worth" (defArgs sLawWorth) (defBody sLawWorth) (defScope sLawWorth) .none kV54 dc54 pm54 an54 cd54 ct54
    | 55 => PySem.W.fnOf "_law_act" "_law_act" (defArgs sLawAct) (defBody sLawAct) (defScope sLawAct) .none kV55 dc55 pm55 an55 cd55 ct55
    | 56 => PySem.W.fnOf "_law_change" "_law_change" (defArgs sLawChange) (defBody sLawChange) (defScope sLawChange) .none kV56 dc56 pm56 an56 cd56 ct56
    | 57 => PySem.W.fnOf "_law_square" "_law_square" (defArgs sLawSquare) (defBody sLawSquare) (defScope sLawSquare) .none kV57 dc57 pm57 an57 cd57 ct57
    | _ => PySem.W.fnOf "law" "law" (defArgs sLaw) (defBody sLaw) (defScope sLaw) .none kV58 dc58 pm58 an58 cd58 ct58
  have T : Txt K mg fa fd := {
    F_bezout := F0, B_bezout := b0, G_bezout := PySem.W.mg_of X G a0,
    F_measure := F1, B_measure := b1, G_measure := PySem.W.mg_of X G a1,
    F_floor_root := F2, B_floor_root := b2, G_floor_root := PySem.W.mg_of X G a2,
    F_is_square := F3, B_is_square := b3, G_is_square := PySem.W.mg_of X G a3,
    F_power_modulo := F4, B_power_modulo := b4, G_power_modulo := PySem.W.mg_of X G a4,
    F_taken_out := F5, B_taken_out := b5, G_taken_out := PySem.W.mg_of X G a5,
    F_is_prime := F6, B_is_prime := b6, G_is_prime := PySem.W.mg_of X G a6,
    F__behaves_as_prime := F7, B__behaves_as_prime := b7, G__behaves_as_prime := PySem.W.mg_of X G a7,
    F_prime_parts := F8, B_prime_parts := b8, G_prime_parts := PySem.W.mg_of X G a8,
    F__least_measure := F9, B__least_measure := b9, G__least_measure := PySem.W.mg_of X G a9,
    F_discriminant := F10, B_discriminant := b10, G_discriminant := PySem.W.mg_of X G a10,
    F_content := F11, B_content := b11, G_content := PySem.W.mg_of X G a11,
    F_worth := F12, B_worth := b12, G_worth := PySem.W.mg_of X G a12,
    F_act := F13, B_act := b13, G_act := PySem.W.mg_of X G a13,
    F_scaled := F14, B_scaled := b14, G_scaled := PySem.W.mg_of X G a14,
    F_kind := F15, B_kind := b15, G_kind := PySem.W.mg_of X G a15,
    F_point_apart := F16, B_point_apart := b16, G_point_apart := PySem.W.mg_of X G a16,
    F_multiply := F17, B_multiply := b17, G_multiply := PySem.W.mg_of X G a17,
    F_determinant := F18, B_determinant := b18, G_determinant := PySem.W.mg_of X G a18,
    F_negative := F19, B_negative := b19, G_negative := PySem.W.mg_of X G a19,
    F_inverse := F20, B_inverse := b20, G_inverse := PySem.W.mg_of X G a20,
    F_completed := F21, B_completed := b21, G_completed := PySem.W.mg_of X G a21,
    F_is_reduced_definite := F22, B_is_reduced_definite := b22, G_is_reduced_definite := PySem.W.mg_of X G a22,
    F_reduce_definite := F23, B_reduce_definite := b23, G_reduce_definite := PySem.W.mg_of X G a23,
    F__step_down := F24, B__step_down := b24, G__step_down := PySem.W.mg_of X G a24,
    F_positive_classes := F25, B_positive_classes := b25, G_positive_classes := PySem.W.mg_of X G a25,
    F_is_reduced_indefinite := F26, B_is_reduced_indefinite := b26, G_is_reduced_indefinite := PySem.W.mg_of X G a26,
    F_reduce_indefinite := F27, B_reduce_indefinite := b27, G_reduce_indefinite := PySem.W.mg_of X G a27,
    F__step_near := F28, B__step_near := b28, G__step_near := PySem.W.mg_of X G a28,
    F_step_of := F29, B_step_of := b29, G_step_of := PySem.W.mg_of X G a29,
    F_cycle := F30, B_cycle := b30, G_cycle := PySem.W.mg_of X G a30,
    F_canonical := F31, B_canonical := b31, G_canonical := PySem.W.mg_of X G a31,
    F_zero_lines := F32, B_zero_lines := b32, G_zero_lines := PySem.W.mg_of X G a32,
    F_directed := F33, B_directed := b33, G_directed := PySem.W.mg_of X G a33,
    F_canonical_split := F34, B_canonical_split := b34, G_canonical_split := PySem.W.mg_of X G a34,
    F_flat_parts := F35, B_flat_parts := b35, G_flat_parts := PySem.W.mg_of X G a35,
    F_canonical_flat := F36, B_canonical_flat := b36, G_canonical_flat := PySem.W.mg_of X G a36,
    F_canonical_form := F37, B_canonical_form := b37, G_canonical_form := PySem.W.mg_of X G a37,
    F_classes := F38, B_classes := b38, G_classes := PySem.W.mg_of X G a38,
    F__reduced_forms := F39, B__reduced_forms := b39, G__reduced_forms := PySem.W.mg_of X G a39,
    F_principal := F40, B_principal := b40, G_principal := PySem.W.mg_of X G a40,
    F_opposite := F41, B_opposite := b41, G_opposite := PySem.W.mg_of X G a41,
    F_compose := F42, B_compose := b42, G_compose := PySem.W.mg_of X G a42,
    F__uniting_steps := F43, B__uniting_steps := b43, G__uniting_steps := PySem.W.mg_of X G a43,
    F__row_before := F44, B__row_before := b44, G__row_before := PySem.W.mg_of X G a44,
    F__sum_of_rows := F45, B__sum_of_rows := b45, G__sum_of_rows := PySem.W.mg_of X G a45,
    F_class_power := F46, B_class_power := b46, G_class_power := PySem.W.mg_of X G a46,
    F_class_order := F47, B_class_order := b47, G_class_order := PySem.W.mg_of X G a47,
    F__law_cell := F48, B__law_cell := b48, G__law_cell := PySem.W.mg_of X G a48,
    F__law_numbers := F49, B__law_numbers := b49, G__law_numbers := PySem.W.mg_of X G a49,
    F__law_state := F50, B__law_state := b50, G__law_state := PySem.W.mg_of X G a50,
    F__law_next := F51, B__law_next := b51, G__law_next := PySem.W.mg_of X G a51,
    F__law_root := F52, B__law_root := b52, G__law_root := PySem.W.mg_of X G a52,
    F__law_mul := F53, B__law_mul := b53, G__law_mul := PySem.W.mg_of X G a53,
    F__law_worth := F54, B__law_worth := b54, G__law_worth := PySem.W.mg_of X G a54,
    F__law_act := F55, B__law_act := b55, G__law_act := PySem.W.mg_of X G a55,
    F__law_change := F56, B__law_change := b56, G__law_change := PySem.W.mg_of X G a56,
    F__law_square := F57, B__law_square := b57, G__law_square := PySem.W.mg_of X G a57,
    F_law := F58, B_law := b58, G_law := PySem.W.mg_of X G a58,
    m_abs := PySem.W.mg_none_of X G z0, m_int := PySem.W.mg_none_of X G z1, m_len := PySem.W.mg_none_of X G z2, m_max := PySem.W.mg_none_of X G z3, m_min := PySem.W.mg_none_of X G z4, m_range := PySem.W.mg_none_of X G z5, m_set := PySem.W.mg_none_of X G z6, m_tuple := PySem.W.mg_none_of X G z7, m_zip := PySem.W.mg_none_of X G z8, g_gcd := PySem.W.mg_of X G i0, g_isqrt := PySem.W.mg_of X G i1, g_WITNESSES := PySem.W.mg_of X G w0, S_WITNESSES := fun H => .inr ⟨_, _, _, x0, rfl, rfl, y0, v0⟩, g_UNIT := PySem.W.mg_of X G w1, S_UNIT := fun H => .inr ⟨_, _, _, x1, rfl, rfl, y1, v1⟩ }
  exact ⟨fd 58, fun s v => .of_eq rfl, fun base _ _ => okLaw T⟩
end Wc
open PySem PySem.W PyProof.Rows
set_option maxHeartbeats 0 in
theorem PySem.Challenge.cw_wholeconic_k19_whole_group_of_classes_holds : PySem.Challenge.rw_wholeconic_k19_whole_group_of_classes.Holds := by
  w_on; o_law; k_head; (case hw => w_witness2)
  k_fill
  refine L2.walk_of (l := PySem.Challenge.rw_wholeconic_k19_whole_group_of_classes) (n := 63) (k := 21) (x := "script") (CX := fun _ => L2.CX0) (sp := fun w => Wc.spLaw _) rfl (by decide) rfl ⟨rfl, by decide, by decide⟩ (fun w h Y => PySem.W.kIn_of Y) ?F (fun _ _ a ns hl _ hS => ⟨a, ns, rfl, hS, hl, fun _ => rfl⟩) (fun _ _ _ _ _ h => h)
  case F =>
    intro w mg fa h KX G hmg
    refine' Wc.all_mk KX G hmg ?a0 ?l0 ?c0 ?k0 ?a1 ?l1 ?c1 ?k1 ?a2 ?l2 ?c2 ?k2 ?a3 ?l3 ?c3 ?k3 ?a4 ?l4 ?c4 ?k4 ?a5 ?l5 ?c5 ?k5 ?a6 ?l6 ?c6 ?k6 ?a7 ?l7 ?c7 ?k7 ?a8 ?l8 ?c8 ?k8 ?a9 ?l9 ?c9 ?k9 ?a10 ?l10 ?c10 ?k10 ?a11 ?l11 ?c11 ?k11 ?a12 ?l12 ?c12 ?k12 ?a13 ?l13 ?c13 ?k13 ?a14 ?l14 ?c14 ?k14 ?a15 ?l15 ?c15 ?k15 ?a16 ?l16 ?c16 ?k16 ?a17 ?l17 ?c17 ?k17 ?a18 ?l18 ?c18 ?k18 ?a19 ?l19 ?c19 ?k19 ?a20 ?l20 ?c20 ?k20 ?a21 ?l21 ?c21 ?k21 ?a22 ?l22 ?c22 ?k22 ?a23 ?l23 ?c23 ?k23 ?a24 ?l24 ?c24 ?k24 ?a25 ?l25 ?c25 ?k25 ?a26 ?l26 ?c26 ?k26 ?a27 ?l27 ?c27 ?k27 ?a28 ?l28 ?c28 ?k28 ?a29 ?l29 ?c29 ?k29 ?a30 ?l30 ?c30 ?k30 ?a31 ?l31 ?c31 ?k31 ?a32 ?l32 ?c32 ?k32 ?a33 ?l33 ?c33 ?k33 ?a34 ?l34 ?c34 ?k34 ?a35 ?l35 ?c35 ?k35 ?a36 ?l36 ?c36 ?k36 ?a37 ?l37 ?c37 ?k37 ?a38 ?l38 ?c38 ?k38 ?a39 ?l39 ?c39 ?k39 ?a40 ?l40 ?c40 ?k40 ?a41 ?l41 ?c41 ?k41 ?a42 ?l42 ?c42 ?k42 ?a43 ?l43 ?c43 ?k43 ?a44 ?l44 ?c44 ?k44 ?a45 ?l45 ?c45 ?k45 ?a46 ?l46 ?c46 ?k46 ?a47 ?l47 ?c47 ?k47 ?a48 ?l48 ?c48 ?k48 ?a49 ?l49 ?c49 ?k49 ?a50 ?l50 ?c50 ?k50 ?a51 ?l51 ?c51 ?k51 ?a52 ?l52 ?c52 ?k52 ?a53 ?l53 ?c53 ?k53 ?a54 ?l54 ?c54 ?k54 ?a55 ?l55 ?c55 ?k55 ?a56 ?l56 ?c56 ?k56 ?a57 ?l57 ?c57 ?k57 ?a58 ?l58 ?c58 ?k58 ?z0 ?z1 ?z2 ?z3 ?z4 ?z5 ?z6 ?z7 ?z8 ?i0 ?i1 ?w0 ?x0 ?y0 ?v0 ?w1 ?x1 ?y1 ?v1
    (case a0 => k_is); (case l0 => k_is); (case c0 => k_is); (case k0 => k_is); (case a1 => k_is); (case l1 => k_is); (case c1 => k_is); (case k1 => k_is); (case a2 => k_is); (case l2 => k_is); (case c2 => k_is); (case k2 => k_is); (case a3 => k_is); (case l3 => k_is); (case c3 => k_is); (case k3 => k_is); (case a4 => k_is); (case l4 => k_is); (case c4 => k_is); (case k4 => k_is); (case a5 => k_is); (case l5 => k_is); (case c5 => k_is); (case k5 => k_is); (case a6 => k_is); (case l6 => k_is); (case c6 => k_is); (case k6 => k_is); (case a7 => k_is); (case l7 => k_is); (case c7 => k_is); (case k7 => k_is); (case a8 => k_is); (case l8 => k_is); (case c8 => k_is); (case k8 => k_is); (case a9 => k_is); (case l9 => k_is); (case c9 => k_is); (case k9 => k_is); (case a10 => k_is); (case l10 => k_is); (case c10 => k_is); (case k10 => k_is); (case a11 => k_is); (case l11 => k_is); (case c11 => k_is); (case k11 => k_is); (case a12 => k_is); (case l12 => k_is); (case c12 => k_is); (case k12 => k_is); (case a13 => k_is); (case l13 => k_is); (case c13 => k_is); (case k13 => k_is); (case a14 => k_is); (case l14 => k_is); (case c14 => k_is); (case k14 => k_is); (case a15 => k_is); (case l15 => k_is); (case c15 => k_is); (case k15 => k_is); (case a16 => k_is); (case l16 => k_is); (case c16 => k_is); (case k16 => k_is); (case a17 => k_is); (case l17 => k_is); (case c17 => k_is); (case k17 => k_is); (case a18 => k_is); (case l18 => k_is); (case c18 => k_is); (case k18 => k_is); (case a19 => k_is); (case l19 => k_is); (case c19 => k_is); (case k19 => k_is); (case a20 => k_is); (case l20 => k_is); (case c20 => k_is); (case k20 => k_is); (case a21 => k_is); (case l21 => k_is); (case c21 => k_is); (case k21 => k_is); (case a22 => k_is); (case l22 => k_is); (case c22 => k_is); (case k22 => k_is); (case a23 => k_is); (case l23 => k_is); (case c23 => k_is); (case k23 => k_is); (case a24 => k_is); (case l24 => k_is); (case c24 => k_is); (case k24 => k_is); (case a25 => k_is); (case l25 => k_is); (case c25 => k_is); (case k25 => k_is); (case a26 => k_is); (case l26 => k_is); (case c26 => k_is); (case k26 => k_is); (case a27 => k_is); (case l27 => k_is); (case c27 => k_is); (case k27 => k_is); (case a28 => k_is); (case l28 => k_is); (case c28 => k_is); (case k28 => k_is); (case a29 => k_is); (case l29 => k_is); (case c29 => k_is); (case k29 => k_is); (case a30 => k_is); (case l30 => k_is); (case c30 => k_is); (case k30 => k_is); (case a31 => k_is); (case l31 => k_is); (case c31 => k_is); (case k31 => k_is); (case a32 => k_is); (case l32 => k_is); (case c32 => k_is); (case k32 => k_is); (case a33 => k_is); (case l33 => k_is); (case c33 => k_is); (case k33 => k_is); (case a34 => k_is); (case l34 => k_is); (case c34 => k_is); (case k34 => k_is); (case a35 => k_is); (case l35 => k_is); (case c35 => k_is); (case k35 => k_is); (case a36 => k_is); (case l36 => k_is); (case c36 => k_is); (case k36 => k_is); (case a37 => k_is); (case l37 => k_is); (case c37 => k_is); (case k37 => k_is); (case a38 => k_is); (case l38 => k_is); (case c38 => k_is); (case k38 => k_is); (case a39 => k_is); (case l39 => k_is); (case c39 => k_is); (case k39 => k_is); (case a40 => k_is); (case l40 => k_is); (case c40 => k_is); (case k40 => k_is); (case a41 => k_is); (case l41 => k_is); (case c41 => k_is); (case k41 => k_is); (case a42 => k_is); (case l42 => k_is); (case c42 => k_is); (case k42 => k_is); (case a43 => k_is); (case l43 => k_is); (case c43 => k_is); (case k43 => k_is); (case a44 => k_is); (case l44 => k_is); (case c44 => k_is); (case k44 => k_is); (case a45 => k_is); (case l45 => k_is); (case c45 => k_is); (case k45 => k_is); (case a46 => k_is); (case l46 => k_is); (case c46 => k_is); (case k46 => k_is); (case a47 => k_is); (case l47 => k_is); (case c47 => k_is); (case k47 => k_is); (case a48 => k_is); (case l48 => k_is); (case c48 => k_is); (case k48 => k_is); (case a49 => k_is); (case l49 => k_is); (case c49 => k_is); (case k49 => k_is); (case a50 => k_is); (case l50 => k_is); (case c50 => k_is); (case k50 => k_is); (case a51 => k_is); (case l51 => k_is); (case c51 => k_is); (case k51 => k_is); (case a52 => k_is); (case l52 => k_is); (case c52 => k_is); (case k52 => k_is); (case a53 => k_is); (case l53 => k_is); (case c53 => k_is); (case k53 => k_is); (case a54 => k_is); (case l54 => k_is); (case c54 => k_is); (case k54 => k_is); (case a55 => k_is); (case l55 => k_is); (case c55 => k_is); (case k55 => k_is); (case a56 => k_is); (case l56 => k_is); (case c56 => k_is); (case k56 => k_is); (case a57 => k_is); (case l57 => k_is); (case c57 => k_is); (case k57 => k_is); (case a58 => k_is); (case l58 => k_is); (case c58 => k_is); (case k58 => k_is); (case z0 => k_is); (case z1 => k_is); (case z2 => k_is); (case z3 => k_is); (case z4 => k_is); (case z5 => k_is); (case z6 => k_is); (case z7 => k_is); (case z8 => k_is); (case i0 => k_is); (case i1 => k_is); (case w0 => k_is); (case x0 => k_is); (case y0 => exact (by decide)); (case v0 => (repeat (first | exact .nil | refine .cons ⟨_, rfl⟩ ?_ | refine .cons rfl ?_))); (case w1 => k_is); (case x1 => k_is); (case y1 => exact (by decide)); (case v1 => (repeat (first | exact .nil | refine .cons ⟨_, rfl⟩ ?_ | refine .cons rfl ?_)))
