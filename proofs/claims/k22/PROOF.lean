import PyProof.Rows.All
import Wide.All
import OpenK.AllK
import Wide.FinOn
import HandS.ForMost
import HandS.Wide
import HandS.Gcd
import HandS.Style
import HandS.IsInst
import HandS.Codes
import HandS.NoneIn
import HandS.Deep
import HandS.SortInts
import HandS.SortRule
import Flt.RightSqrt
import HandS.WideBits
import HandS.Conv
import KE.DatumOrd
import PyProof.Rows.RowBridgeK
import KE.SortData
import HandS.TupSets
import HandS.SetKeys
import HandS.DictComp
import KE.KDictDisplayH
import PyProof.Rows.TupTab
import PySem.Challenge.RW_wholeconic_k22_definite_representations
set_option Elab.async false
set_option linter.all false
set_option maxRecDepth 100000
set_option maxHeartbeats 4000000
namespace Wc
open PySem PySem.Spec PyProof.Rows L2
/-! ### the text -/
def topS (i : Nat) : Stmt := PySem.Challenge.pw_wholeconic_k22_definite_representations.main.body.getD i (.Pass ⟨0, 0, 0, 0⟩)
abbrev sBezout : Stmt := topS 3
theorem scBezout : FnScope ["a", "b", "g", "u", "v", "rest", "rest_u", "rest_v", "part"] ["a", "b"] (defScope sBezout) := ⟨rfl, rfl, rfl, by decide +kernel, rfl, by decide +kernel, by decide +kernel⟩
abbrev sMeasure : Stmt := topS 4
theorem scMeasure : FnScope ["numbers", "found", "number"] ["numbers"] (defScope sMeasure) := ⟨rfl, rfl, rfl, by decide +kernel, rfl, by decide +kernel, by decide +kernel⟩
abbrev sFloorRoot : Stmt := topS 5
theorem scFloorRoot : FnScope ["n"] ["n"] (defScope sFloorRoot) := ⟨rfl, rfl, rfl, by decide +kernel, rfl, by decide +kernel, by decide +kernel⟩
abbrev sIsSquare : Stmt := topS 6
theorem scIsSquare : FnScope ["n", "root"] ["n"] (defScope sIsSquare) := ⟨rfl, rfl, rfl, by decide +kernel, rfl, by decide +kernel, by decide +kernel⟩
abbrev sPower : Stmt := topS 7
theorem scPower : FnScope ["base", "many", "result", "_"] ["base", "many"] (defScope sPower) := ⟨rfl, rfl, rfl, by decide +kernel, rfl, by decide +kernel, by decide +kernel⟩
abbrev sPowerModulo : Stmt := topS 8
theorem scPowerModulo : FnScope ["base", "many", "modulus", "result", "square"] ["base", "many", "modulus"] (defScope sPowerModulo) := ⟨rfl, rfl, rfl, by decide +kernel, rfl, by decide +kernel, by decide +kernel⟩
abbrev sTakenOut : Stmt := topS 9
theorem scTakenOut : FnScope ["n", "p", "many"] ["n", "p"] (defScope sTakenOut) := ⟨rfl, rfl, rfl, by decide +kernel, rfl, by decide +kernel, by decide +kernel⟩
abbrev sIsPrime : Stmt := topS 10
theorem scIsPrime : FnScope ["n", "p", "many", "odd", "base"] ["n"] (defScope sIsPrime) := ⟨rfl, rfl, rfl, by decide +kernel, rfl, by decide +kernel, by decide +kernel⟩
abbrev sBehavesAsPrime : Stmt := topS 11
theorem scBehavesAsPrime : FnScope ["n", "base", "many", "odd", "number", "_"] ["n", "base", "many", "odd"] (defScope sBehavesAsPrime) := ⟨rfl, rfl, rfl, by decide +kernel, rfl, by decide +kernel, by decide +kernel⟩
abbrev sPrimeParts : Stmt := topS 12
theorem scPrimeParts : FnScope ["n", "parts", "rest", "p", "many"] ["n"] (defScope sPrimeParts) := ⟨rfl, rfl, rfl, by decide +kernel, rfl, by decide +kernel, by decide +kernel⟩
abbrev sLeastMeasure : Stmt := topS 13
theorem scLeastMeasure : FnScope ["n", "start", "number"] ["n", "start"] (defScope sLeastMeasure) := ⟨rfl, rfl, rfl, by decide +kernel, rfl, by decide +kernel, by decide +kernel⟩
abbrev sSquareMeasures : Stmt := topS 14
theorem scSquareMeasures : FnScope ["n"] ["n"] (defScope sSquareMeasures) := ⟨rfl, rfl, rfl, by decide +kernel, rfl, by decide +kernel, by decide +kernel⟩
abbrev sHalved : Stmt := topS 15
theorem scHalved : FnScope ["parts", "p", "many"] ["parts"] (defScope sHalved) := ⟨rfl, rfl, rfl, by decide +kernel, rfl, by decide +kernel, by decide +kernel⟩
abbrev sProducts : Stmt := topS 16
theorem scProducts : FnScope ["parts", "found", "p", "many", "powers", "k", "g", "part"] ["parts"] (defScope sProducts) := ⟨rfl, rfl, rfl, by decide +kernel, rfl, by decide +kernel, by decide +kernel⟩
abbrev sDiscriminant : Stmt := topS 18
theorem scDiscriminant : FnScope ["form", "a", "b", "c"] ["form"] (defScope sDiscriminant) := ⟨rfl, rfl, rfl, by decide +kernel, rfl, by decide +kernel, by decide +kernel⟩
abbrev sContent : Stmt := topS 19
theorem scContent : FnScope ["form"] ["form"] (defScope sContent) := ⟨rfl, rfl, rfl, by decide +kernel, rfl, by decide +kernel, by decide +kernel⟩
abbrev sWorth : Stmt := topS 20
theorem scWorth : FnScope ["form", "point", "a", "b", "c", "x", "y"] ["form", "point"] (defScope sWorth) := ⟨rfl, rfl, rfl, by decide +kernel, rfl, by decide +kernel, by decide +kernel⟩
abbrev sAct : Stmt := topS 21
theorem scAct : FnScope ["form", "m", "a", "b", "c", "p", "q", "r", "s", "middle"] ["form", "m"] (defScope sAct) := ⟨rfl, rfl, rfl, by decide +kernel, rfl, by decide +kernel, by decide +kernel⟩
abbrev sScaled : Stmt := topS 22
theorem scScaled : FnScope ["form", "number", "a", "b", "c"] ["form", "number"] (defScope sScaled) := ⟨rfl, rfl, rfl, by decide +kernel, rfl, by decide +kernel, by decide +kernel⟩
abbrev sDivided : Stmt := topS 23
theorem scDivided : FnScope ["form", "number", "a", "b", "c"] ["form", "number"] (defScope sDivided) := ⟨rfl, rfl, rfl, by decide +kernel, rfl, by decide +kernel, by decide +kernel⟩
abbrev sKind : Stmt := topS 24
theorem scKind : FnScope ["form", "d"] ["form"] (defScope sKind) := ⟨rfl, rfl, rfl, by decide +kernel, rfl, by decide +kernel, by decide +kernel⟩
abbrev sUnitChange : Stmt := topS 25
theorem scUnitChange : FnScope ["form", "t", "u", "a", "b", "c"] ["form", "t", "u"] (defScope sUnitChange) := ⟨rfl, rfl, rfl, by decide +kernel, rfl, by decide +kernel, by decide +kernel⟩
abbrev sMultiply : Stmt := topS 28
theorem scMultiply : FnScope ["m", "n", "p", "q", "r", "s", "p2", "q2", "r2", "s2"] ["m", "n"] (defScope sMultiply) := ⟨rfl, rfl, rfl, by decide +kernel, rfl, by decide +kernel, by decide +kernel⟩
abbrev sDeterminant : Stmt := topS 29
theorem scDeterminant : FnScope ["m", "p", "q", "r", "s"] ["m"] (defScope sDeterminant) := ⟨rfl, rfl, rfl, by decide +kernel, rfl, by decide +kernel, by decide +kernel⟩
abbrev sApply : Stmt := topS 30
theorem scApply : FnScope ["m", "point", "p", "q", "r", "s", "x", "y"] ["m", "point"] (defScope sApply) := ⟨rfl, rfl, rfl, by decide +kernel, rfl, by decide +kernel, by decide +kernel⟩
abbrev sNegative : Stmt := topS 31
theorem scNegative : FnScope ["m", "p", "q", "r", "s"] ["m"] (defScope sNegative) := ⟨rfl, rfl, rfl, by decide +kernel, rfl, by decide +kernel, by decide +kernel⟩
abbrev sInverse : Stmt := topS 32
theorem scInverse : FnScope ["m", "p", "q", "r", "s", "turned"] ["m"] (defScope sInverse) := ⟨rfl, rfl, rfl, by decide +kernel, rfl, by decide +kernel, by decide +kernel⟩
abbrev sIsReducedDefinite : Stmt := topS 38
theorem scIsReducedDefinite : FnScope ["form", "a", "b", "c"] ["form"] (defScope sIsReducedDefinite) := ⟨rfl, rfl, rfl, by decide +kernel, rfl, by decide +kernel, by decide +kernel⟩
abbrev sReduceDefinite : Stmt := topS 40
theorem scReduceDefinite : FnScope ["form", "found", "m", "step"] ["form"] (defScope sReduceDefinite) := ⟨rfl, rfl, rfl, by decide +kernel, rfl, by decide +kernel, by decide +kernel⟩
abbrev sStepDown : Stmt := topS 41
theorem scStepDown : FnScope ["form", "a", "b", "c", "n"] ["form"] (defScope sStepDown) := ⟨rfl, rfl, rfl, by decide +kernel, rfl, by decide +kernel, by decide +kernel⟩
abbrev sSelfChanges : Stmt := topS 42
theorem scSelfChanges : FnScope ["form", "part", "d", "units", "t", "u"] ["form"] (defScope sSelfChanges) := ⟨rfl, rfl, rfl, by decide +kernel, rfl, by decide +kernel, by decide +kernel⟩
abbrev sIsReducedIndefinite : Stmt := topS 53
theorem scIsReducedIndefinite : FnScope ["form", "a", "b", "_", "root"] ["form"] (defScope sIsReducedIndefinite) := ⟨rfl, rfl, rfl, by decide +kernel, rfl, by decide +kernel, by decide +kernel⟩
abbrev sReduceIndefinite : Stmt := topS 55
theorem scReduceIndefinite : FnScope ["form", "m", "step"] ["form"] (defScope sReduceIndefinite) := ⟨rfl, rfl, rfl, by decide +kernel, rfl, by decide +kernel, by decide +kernel⟩
abbrev sStepNear : Stmt := topS 56
theorem scStepNear : FnScope ["form", "_", "b", "c"] ["form"] (defScope sStepNear) := ⟨rfl, rfl, rfl, by decide +kernel, rfl, by decide +kernel, by decide +kernel⟩
abbrev sStepOf : Stmt := topS 57
theorem scStepOf : FnScope ["form", "_", "b", "c", "root", "b2"] ["form"] (defScope sStepOf) := ⟨rfl, rfl, rfl, by decide +kernel, rfl, by decide +kernel, by decide +kernel⟩
abbrev sCycle : Stmt := topS 58
theorem scCycle : FnScope ["form", "found", "step", "other", "m"] ["form"] (defScope sCycle) := ⟨rfl, rfl, rfl, by decide +kernel, rfl, by decide +kernel, by decide +kernel⟩
abbrev sSelfGroup : Stmt := topS 70
theorem scSelfGroup : FnScope ["form", "word", "both", "_", "p", "q"] ["form"] (defScope sSelfGroup) := ⟨rfl, rfl, rfl, by decide +kernel, rfl, by decide +kernel, by decide +kernel⟩
abbrev sSquareRoots : Stmt := topS 72
theorem scSquareRoots : FnScope ["d", "m", "roots", "modulus", "p", "many", "part"] ["d", "m"] (defScope sSquareRoots) := ⟨rfl, rfl, rfl, by decide +kernel, rfl, by decide +kernel, by decide +kernel⟩
abbrev sIsResidue : Stmt := topS 73
theorem scIsResidue : FnScope ["d", "p"] ["d", "p"] (defScope sIsResidue) := ⟨rfl, rfl, rfl, by decide +kernel, rfl, by decide +kernel, by decide +kernel⟩
abbrev sJoined : Stmt := topS 74
theorem scJoined : FnScope ["roots", "modulus", "others", "part", "inverse", "root", "other"] ["roots", "modulus", "others", "part"] (defScope sJoined) := ⟨rfl, rfl, rfl, by decide +kernel, rfl, by decide +kernel, by decide +kernel⟩
abbrev sPowerRoots : Stmt := topS 75
theorem scPowerRoots : FnScope ["d", "p", "many", "modulus", "rest", "inside", "unit", "half", "step", "root", "k"] ["d", "p", "many"] (defScope sPowerRoots) := ⟨rfl, rfl, rfl, by decide +kernel, rfl, by decide +kernel, by decide +kernel⟩
abbrev sUnitRoots : Stmt := topS 76
theorem scUnitRoots : FnScope ["unit", "p", "many", "root"] ["unit", "p", "many"] (defScope sUnitRoots) := ⟨rfl, rfl, rfl, by decide +kernel, rfl, by decide +kernel, by decide +kernel⟩
abbrev sUnitRootsOfTwo : Stmt := topS 77
theorem scUnitRootsOfTwo : FnScope ["unit", "many", "root", "modulus", "_", "half"] ["unit", "many"] (defScope sUnitRootsOfTwo) := ⟨rfl, rfl, rfl, by decide +kernel, rfl, by decide +kernel, by decide +kernel⟩
abbrev sPrimeRoot : Stmt := topS 78
theorem scPrimeRoot : FnScope ["unit", "p", "many", "odd", "root", "rest", "turn", "order", "_"] ["unit", "p"] (defScope sPrimeRoot) := ⟨rfl, rfl, rfl, by decide +kernel, rfl, by decide +kernel, by decide +kernel⟩
abbrev sLeastNonResidue : Stmt := topS 79
theorem scLeastNonResidue : FnScope ["p", "number"] ["p"] (defScope sLeastNonResidue) := ⟨rfl, rfl, rfl, by decide +kernel, rfl, by decide +kernel, by decide +kernel⟩
abbrev sDoublingsToOne : Stmt := topS 80
theorem scDoublingsToOne : FnScope ["number", "p", "many"] ["number", "p"] (defScope sDoublingsToOne) := ⟨rfl, rfl, rfl, by decide +kernel, rfl, by decide +kernel, by decide +kernel⟩
abbrev sLiftedRoot : Stmt := topS 81
theorem scLiftedRoot : FnScope ["root", "unit", "p", "many", "inverse", "modulus", "_"] ["root", "unit", "p", "many"] (defScope sLiftedRoot) := ⟨rfl, rfl, rfl, by decide +kernel, rfl, by decide +kernel, by decide +kernel⟩
abbrev sRootedForms : Stmt := topS 83
theorem scRootedForms : FnScope ["d", "n", "roots", "b"] ["d", "n"] (defScope sRootedForms) := ⟨rfl, rfl, rfl, by decide +kernel, rfl, by decide +kernel, by decide +kernel⟩
abbrev sAnyReduced : Stmt := topS 84
theorem scAnyReduced : FnScope ["form"] ["form"] (defScope sAnyReduced) := ⟨rfl, rfl, rfl, by decide +kernel, rfl, by decide +kernel, by decide +kernel⟩
abbrev sWaysToReduced : Stmt := topS 85
theorem scWaysToReduced : FnScope ["form", "reduced", "m", "other", "n"] ["form"] (defScope sWaysToReduced) := ⟨rfl, rfl, rfl, by decide +kernel, rfl, by decide +kernel, by decide +kernel⟩
abbrev sChangeByWays : Stmt := topS 86
theorem scChangeByWays : FnScope ["ways", "form", "reduced", "n"] ["ways", "form"] (defScope sChangeByWays) := ⟨rfl, rfl, rfl, by decide +kernel, rfl, by decide +kernel, by decide +kernel⟩
abbrev sFirstPoints : Stmt := topS 87
theorem scFirstPoints : FnScope ["form", "n", "g", "part", "d", "ways", "found", "side", "rooted", "m"] ["form", "n"] (defScope sFirstPoints) := ⟨rfl, rfl, rfl, by decide +kernel, rfl, by decide +kernel, by decide +kernel⟩
abbrev sDefinitePoints : Stmt := topS 88
theorem scDefinitePoints : FnScope ["form", "n"] ["form", "n"] (defScope sDefinitePoints) := ⟨rfl, rfl, rfl, by decide +kernel, rfl, by decide +kernel, by decide +kernel⟩
abbrev sDefiniteOrbits : Stmt := topS 89
theorem scDefiniteOrbits : FnScope ["form", "firsts", "changes", "point", "m"] ["form", "firsts"] (defScope sDefiniteOrbits) := ⟨rfl, rfl, rfl, by decide +kernel, rfl, by decide +kernel, by decide +kernel⟩
abbrev sIsRepresented : Stmt := topS 92
theorem scIsRepresented : FnScope ["form", "n"] ["form", "n"] (defScope sIsRepresented) := ⟨rfl, rfl, rfl, by decide +kernel, rfl, by decide +kernel, by decide +kernel⟩
abbrev sLawCell : Stmt := topS 94
theorem scLawCell : FnScope ["script", "k"] ["script", "k"] (defScope sLawCell) := ⟨rfl, rfl, rfl, by decide +kernel, rfl, by decide +kernel, by decide +kernel⟩
abbrev sLawNumbers : Stmt := topS 95
theorem scLawNumbers : FnScope ["cell", "many", "rest", "span", "numbers", "k", "mixed"] ["cell", "many"] (defScope sLawNumbers) := ⟨rfl, rfl, rfl, by decide +kernel, rfl, by decide +kernel, by decide +kernel⟩
abbrev sLawState : Stmt := topS 96
theorem scLawState : FnScope ["script", "numbers", "k"] ["script"] (defScope sLawState) := ⟨rfl, rfl, rfl, by decide +kernel, rfl, by decide +kernel, by decide +kernel⟩
abbrev sLawNext : Stmt := topS 97
theorem scLawNext : FnScope ["state", "many", "number"] ["state", "many"] (defScope sLawNext) := ⟨rfl, rfl, rfl, by decide +kernel, rfl, by decide +kernel, by decide +kernel⟩
abbrev sLawRoot : Stmt := topS 99
theorem scLawRoot : FnScope ["n", "low", "high", "k", "middle"] ["n"] (defScope sLawRoot) := ⟨rfl, rfl, rfl, by decide +kernel, rfl, by decide +kernel, by decide +kernel⟩
abbrev sLawMul : Stmt := topS 100
theorem scLawMul : FnScope ["m", "n", "top"] ["m", "n"] (defScope sLawMul) := ⟨rfl, rfl, rfl, by decide +kernel, rfl, by decide +kernel, by decide +kernel⟩
abbrev sLawAt : Stmt := topS 101
theorem scLawAt : FnScope ["m", "x", "y"] ["m", "x", "y"] (defScope sLawAt) := ⟨rfl, rfl, rfl, by decide +kernel, rfl, by decide +kernel, by decide +kernel⟩
abbrev sLawWorth : Stmt := topS 102
theorem scLawWorth : FnScope ["form", "x", "y"] ["form", "x", "y"] (defScope sLawWorth) := ⟨rfl, rfl, rfl, by decide +kernel, rfl, by decide +kernel, by decide +kernel⟩
abbrev sLawAct : Stmt := topS 103
theorem scLawAct : FnScope ["form", "m", "first", "last"] ["form", "m"] (defScope sLawAct) := ⟨rfl, rfl, rfl, by decide +kernel, rfl, by decide +kernel, by decide +kernel⟩
abbrev sLawChange : Stmt := topS 104
theorem scLawChange : FnScope ["state", "many", "m", "k", "t"] ["state", "many"] (defScope sLawChange) := ⟨rfl, rfl, rfl, by decide +kernel, rfl, by decide +kernel, by decide +kernel⟩
abbrev sLawSquare : Stmt := topS 105
theorem scLawSquare : FnScope ["n"] ["n"] (defScope sLawSquare) := ⟨rfl, rfl, rfl, by decide +kernel, rfl, by decide +kernel, by decide +kernel⟩
abbrev sLawKind : Stmt := topS 106
theorem scLawKind : FnScope ["form", "d"] ["form"] (defScope sLawKind) := ⟨rfl, rfl, rfl, by decide +kernel, rfl, by decide +kernel, by decide +kernel⟩
abbrev sLawForm : Stmt := topS 109
theorem scLawForm : FnScope ["state", "sort", "k", "a", "c", "form"] ["state", "sort"] (defScope sLawForm) := ⟨rfl, rfl, rfl, by decide +kernel, rfl, by decide +kernel, by decide +kernel⟩
abbrev sLawSearch : Stmt := topS 110
theorem scLawSearch : FnScope ["form", "n", "d", "found", "wide", "high", "x", "y"] ["form", "n"] (defScope sLawSearch) := ⟨rfl, rfl, rfl, by decide +kernel, rfl, by decide +kernel, by decide +kernel⟩
abbrev sLaw : Stmt := topS 111
theorem scLaw : FnScope ["script", "state", "g", "form", "n", "due", "made", "told", "x", "y", "d", "rows", "part", "m", "b"] ["script"] (defScope sLaw) := ⟨rfl, rfl, rfl, by decide +kernel, rfl, by decide +kernel, by decide +kernel⟩
structure Txt (K : PySem.W.Frag) (mg : Str → Option Value) (fa : Nat → Addr) (fd : Nat → FuncData) : Prop where
  F_bezout : Fun K "bezout" "bezout" sBezout (fa 0) (fd 0)
  B_bezout : Binds K (fd 0) ["a", "b"] []
  G_bezout : mg "bezout" = some (.ref (fa 0))
  F_measure : Fun K "measure" "measure" sMeasure (fa 1) (fd 1)
  B_measure : Binds K (fd 1) ["numbers"] []
  G_measure : mg "measure" = some (.ref (fa 1))
  F_floor_root : Fun K "floor_root" "floor_root" sFloorRoot (fa 2) (fd 2)
  B_floor_root : Binds K (fd 2) ["n"] []
  G_floor_root : mg "floor_root" = some (.ref (fa 2))
  F_is_square : Fun K "is_square" "is_square" sIsSquare (fa 3) (fd 3)
  B_is_square : Binds K (fd 3) ["n"] []
  G_is_square : mg "is_square" = some (.ref (fa 3))
  F_power : Fun K "power" "power" sPower (fa 4) (fd 4)
  B_power : Binds K (fd 4) ["base", "many"] []
  G_power : mg "power" = some (.ref (fa 4))
  F_power_modulo : Fun K "power_modulo" "power_modulo" sPowerModulo (fa 5) (fd 5)
  B_power_modulo : Binds K (fd 5) ["base", "many", "modulus"] []
  G_power_modulo : mg "power_modulo" = some (.ref (fa 5))
  F_taken_out : Fun K "taken_out" "taken_out" sTakenOut (fa 6) (fd 6)
  B_taken_out : Binds K (fd 6) ["n", "p"] []
  G_taken_out : mg "taken_out" = some (.ref (fa 6))
  F_is_prime : Fun K "is_prime" "is_prime" sIsPrime (fa 7) (fd 7)
  B_is_prime : Binds K (fd 7) ["n"] []
  G_is_prime : mg "is_prime" = some (.ref (fa 7))
  F__behaves_as_prime : Fun K "_behaves_as_prime" "_behaves_as_prime" sBehavesAsPrime (fa 8) (fd 8)
  B__behaves_as_prime : Binds K (fd 8) ["n", "base", "many", "odd"] []
  G__behaves_as_prime : mg "_behaves_as_prime" = some (.ref (fa 8))
  F_prime_parts : Fun K "prime_parts" "prime_parts" sPrimeParts (fa 9) (fd 9)
  B_prime_parts : Binds K (fd 9) ["n"] []
  G_prime_parts : mg "prime_parts" = some (.ref (fa 9))
  F__least_measure : Fun K "_least_measure" "_least_measure" sLeastMeasure (fa 10) (fd 10)
  B__least_measure : Binds K (fd 10) ["n", "start"] []
  G__least_measure : mg "_least_measure" = some (.ref (fa 10))
  F_square_measures : Fun K "square_measures" "square_measures" sSquareMeasures (fa 11) (fd 11)
  B_square_measures : Binds K (fd 11) ["n"] []
  G_square_measures : mg "square_measures" = some (.ref (fa 11))
  F_halved : Fun K "halved" "halved" sHalved (fa 12) (fd 12)
  B_halved : Binds K (fd 12) ["parts"] []
  G_halved : mg "halved" = some (.ref (fa 12))
  F_products : Fun K "products" "products" sProducts (fa 13) (fd 13)
  B_products : Binds K (fd 13) ["parts"] []
  G_products : mg "products" = some (.ref (fa 13))
  F_discriminant : Fun K "discriminant" "discriminant" sDiscriminant (fa 14) (fd 14)
  B_discriminant : Binds K (fd 14) ["form"] []
  G_discriminant : mg "discriminant" = some (.ref (fa 14))
  F_content : Fun K "content" "content" sContent (fa 15) (fd 15)
  B_content : Binds K (fd 15) ["form"] []
  G_content : mg "content" = some (.ref (fa 15))
  F_worth : Fun K "worth" "worth" sWorth (fa 16) (fd 16)
  B_worth : Binds K (fd 16) ["form", "point"] []
  G_worth : mg "worth" = some (.ref (fa 16))
  F_act : Fun K "act" "act" sAct (fa 17) (fd 17)
  B_act : Binds K (fd 17) ["form", "m"] []
  G_act : mg "act" = some (.ref (fa 17))
  F_scaled : Fun K "scaled" "scaled" sScaled (fa 18) (fd 18)
  B_scaled : Binds K (fd 18) ["form", "number"] []
  G_scaled : mg "scaled" = some (.ref (fa 18))
  F_divided : Fun K "divided" "divided" sDivided (fa 19) (fd 19)
  B_divided : Binds K (fd 19) ["form", "number"] []
  G_divided : mg "divided" = some (.ref (fa 19))
  F_kind : Fun K "kind" "kind" sKind (fa 20) (fd 20)
  B_kind : Binds K (fd 20) ["form"] []
  G_kind : mg "kind" = some (.ref (fa 20))
  F_unit_change : Fun K "unit_change" "unit_change" sUnitChange (fa 21) (fd 21)
  B_unit_change : Binds K (fd 21) ["form", "t", "u"] []
  G_unit_change : mg "unit_change" = some (.ref (fa 21))
  F_multiply : Fun K "multiply" "multiply" sMultiply (fa 22) (fd 22)
  B_multiply : Binds K (fd 22) ["m", "n"] []
  G_multiply : mg "multiply" = some (.ref (fa 22))
  F_determinant : Fun K "determinant" "determinant" sDeterminant (fa 23) (fd 23)
  B_determinant : Binds K (fd 23) ["m"] []
  G_determinant : mg "determinant" = some (.ref (fa 23))
  F_apply : Fun K "apply" "apply" sApply (fa 24) (fd 24)
  B_apply : Binds K (fd 24) ["m", "point"] []
  G_apply : mg "apply" = some (.ref (fa 24))
  F_negative : Fun K "negative" "negative" sNegative (fa 25) (fd 25)
  B_negative : Binds K (fd 25) ["m"] []
  G_negative : mg "negative" = some (.ref (fa 25))
  F_inverse : Fun K "inverse" "inverse" sInverse (fa 26) (fd 26)
  B_inverse : Binds K (fd 26) ["m"] []
  G_inverse : mg "inverse" = some (.ref (fa 26))
  F_is_reduced_definite : Fun K "is_reduced" "is_reduced" sIsReducedDefinite (fa 27) (fd 27)
  B_is_reduced_definite : Binds K (fd 27) ["form"] []
  G_is_reduced_definite : mg "is_reduced_definite" = some (.ref (fa 27))
  F_reduce_definite : Fun K "reduce_definite" "reduce_definite" sReduceDefinite (fa 28) (fd 28)
  B_reduce_definite : Binds K (fd 28) ["form"] []
  G_reduce_definite : mg "reduce_definite" = some (.ref (fa 28))
  F__step_down : Fun K "_step_down" "_step_down" sStepDown (fa 29) (fd 29)
  B__step_down : Binds K (fd 29) ["form"] []
  G__step_down : mg "_step_down" = some (.ref (fa 29))
  F_self_changes : Fun K "self_changes" "self_changes" sSelfChanges (fa 30) (fd 30)
  B_self_changes : Binds K (fd 30) ["form"] []
  G_self_changes : mg "self_changes" = some (.ref (fa 30))
  F_is_reduced_indefinite : Fun K "is_reduced" "is_reduced" sIsReducedIndefinite (fa 31) (fd 31)
  B_is_reduced_indefinite : Binds K (fd 31) ["form"] []
  G_is_reduced_indefinite : mg "is_reduced_indefinite" = some (.ref (fa 31))
  F_reduce_indefinite : Fun K "reduce_indefinite" "reduce_indefinite" sReduceIndefinite (fa 32) (fd 32)
  B_reduce_indefinite : Binds K (fd 32) ["form"] []
  G_reduce_indefinite : mg "reduce_indefinite" = some (.ref (fa 32))
  F__step_near : Fun K "_step_near" "_step_near" sStepNear (fa 33) (fd 33)
  B__step_near : Binds K (fd 33) ["form"] []
  G__step_near : mg "_step_near" = some (.ref (fa 33))
  F_step_of : Fun K "step_of" "step_of" sStepOf (fa 34) (fd 34)
  B_step_of : Binds K (fd 34) ["form"] []
  G_step_of : mg "step_of" = some (.ref (fa 34))
  F_cycle : Fun K "cycle" "cycle" sCycle (fa 35) (fd 35)
  B_cycle : Binds K (fd 35) ["form"] []
  G_cycle : mg "cycle" = some (.ref (fa 35))
  F_self_group : Fun K "self_group" "self_group" sSelfGroup (fa 36) (fd 36)
  B_self_group : Binds K (fd 36) ["form"] []
  G_self_group : mg "self_group" = some (.ref (fa 36))
  F_square_roots : Fun K "square_roots" "square_roots" sSquareRoots (fa 37) (fd 37)
  B_square_roots : Binds K (fd 37) ["d", "m"] []
  G_square_roots : mg "square_roots" = some (.ref (fa 37))
  F_is_residue : Fun K "is_residue" "is_residue" sIsResidue (fa 38) (fd 38)
  B_is_residue : Binds K (fd 38) ["d", "p"] []
  G_is_residue : mg "is_residue" = some (.ref (fa 38))
  F__joined : Fun K "_joined" "_joined" sJoined (fa 39) (fd 39)
  B__joined : Binds K (fd 39) ["roots", "modulus", "others", "part"] []
  G__joined : mg "_joined" = some (.ref (fa 39))
  F__power_roots : Fun K "_power_roots" "_power_roots" sPowerRoots (fa 40) (fd 40)
  B__power_roots : Binds K (fd 40) ["d", "p", "many"] []
  G__power_roots : mg "_power_roots" = some (.ref (fa 40))
  F__unit_roots : Fun K "_unit_roots" "_unit_roots" sUnitRoots (fa 41) (fd 41)
  B__unit_roots : Binds K (fd 41) ["unit", "p", "many"] []
  G__unit_roots : mg "_unit_roots" = some (.ref (fa 41))
  F__unit_roots_of_two : Fun K "_unit_roots_of_two" "_unit_roots_of_two" sUnitRootsOfTwo (fa 42) (fd 42)
  B__unit_roots_of_two : Binds K (fd 42) ["unit", "many"] []
  G__unit_roots_of_two : mg "_unit_roots_of_two" = some (.ref (fa 42))
  F__prime_root : Fun K "_prime_root" "_prime_root" sPrimeRoot (fa 43) (fd 43)
  B__prime_root : Binds K (fd 43) ["unit", "p"] []
  G__prime_root : mg "_prime_root" = some (.ref (fa 43))
  F__least_non_residue : Fun K "_least_non_residue" "_least_non_residue" sLeastNonResidue (fa 44) (fd 44)
  B__least_non_residue : Binds K (fd 44) ["p"] []
  G__least_non_residue : mg "_least_non_residue" = some (.ref (fa 44))
  F__doublings_to_one : Fun K "_doublings_to_one" "_doublings_to_one" sDoublingsToOne (fa 45) (fd 45)
  B__doublings_to_one : Binds K (fd 45) ["number", "p"] []
  G__doublings_to_one : mg "_doublings_to_one" = some (.ref (fa 45))
  F__lifted_root : Fun K "_lifted_root" "_lifted_root" sLiftedRoot (fa 46) (fd 46)
  B__lifted_root : Binds K (fd 46) ["root", "unit", "p", "many"] []
  G__lifted_root : mg "_lifted_root" = some (.ref (fa 46))
  F_rooted_forms : Fun K "rooted_forms" "rooted_forms" sRootedForms (fa 47) (fd 47)
  B_rooted_forms : Binds K (fd 47) ["d", "n"] []
  G_rooted_forms : mg "rooted_forms" = some (.ref (fa 47))
  F_any_reduced : Fun K "any_reduced" "any_reduced" sAnyReduced (fa 48) (fd 48)
  B_any_reduced : Binds K (fd 48) ["form"] []
  G_any_reduced : mg "any_reduced" = some (.ref (fa 48))
  F_ways_to_reduced : Fun K "ways_to_reduced" "ways_to_reduced" sWaysToReduced (fa 49) (fd 49)
  B_ways_to_reduced : Binds K (fd 49) ["form"] []
  G_ways_to_reduced : mg "ways_to_reduced" = some (.ref (fa 49))
  F_change_by_ways : Fun K "change_by_ways" "change_by_ways" sChangeByWays (fa 50) (fd 50)
  B_change_by_ways : Binds K (fd 50) ["ways", "form"] []
  G_change_by_ways : mg "change_by_ways" = some (.ref (fa 50))
  F_first_points : Fun K "first_points" "first_points" sFirstPoints (fa 51) (fd 51)
  B_first_points : Binds K (fd 51) ["form", "n"] []
  G_first_points : mg "first_points" = some (.ref (fa 51))
  F_definite_points : Fun K "definite_points" "definite_points" sDefinitePoints (fa 52) (fd 52)
  B_definite_points : Binds K (fd 52) ["form", "n"] []
  G_definite_points : mg "definite_points" = some (.ref (fa 52))
  F_definite_orbits : Fun K "definite_orbits" "definite_orbits" sDefiniteOrbits (fa 53) (fd 53)
  B_definite_orbits : Binds K (fd 53) ["form", "firsts"] []
  G_definite_orbits : mg "definite_orbits" = some (.ref (fa 53))
  F_is_represented : Fun K "is_represented" "is_represented" sIsRepresented (fa 54) (fd 54)
  B_is_represented : Binds K (fd 54) ["form", "n"] []
  G_is_represented : mg "is_represented" = some (.ref (fa 54))
  F__law_cell : Fun K "_law_cell" "_law_cell" sLawCell (fa 55) (fd 55)
  B__law_cell : Binds K (fd 55) ["script", "k"] []
  G__law_cell : mg "_law_cell" = some (.ref (fa 55))
  F__law_numbers : Fun K "_law_numbers" "_law_numbers" sLawNumbers (fa 56) (fd 56)
  B__law_numbers : Binds K (fd 56) ["cell", "many"] []
  G__law_numbers : mg "_law_numbers" = some (.ref (fa 56))
  F__law_state : Fun K "_law_state" "_law_state" sLawState (fa 57) (fd 57)
  B__law_state : Binds K (fd 57) ["script"] []
  G__law_state : mg "_law_state" = some (.ref (fa 57))
  F__law_next : Fun K "_law_next" "_law_next" sLawNext (fa 58) (fd 58)
  B__law_next : Binds K (fd 58) ["state", "many"] []
  G__law_next : mg "_law_next" = some (.ref (fa 58))
  F__law_root : Fun K "_law_root" "_law_root" sLawRoot (fa 59) (fd 59)
  B__law_root : Binds K (fd 59) ["n"] []
  G__law_root : mg "_law_root" = some (.ref (fa 59))
  F__law_mul : Fun K "_law_mul" "_law_mul" sLawMul (fa 60) (fd 60)
  B__law_mul : Binds K (fd 60) ["m", "n"] []
  G__law_mul : mg "_law_mul" = some (.ref (fa 60))
  F__law_at : Fun K "_law_at" "_law_at" sLawAt (fa 61) (fd 61)
  B__law_at : Binds K (fd 61) ["m", "x", "y"] []
  G__law_at : mg "_law_at" = some (.ref (fa 61))
  F__law_worth : Fun K "_law_worth" "_law_worth" sLawWorth (fa 62) (fd 62)
  B__law_worth : Binds K (fd 62) ["form", "x", "y"] []
  G__law_worth : mg "_law_worth" = some (.ref (fa 62))
  F__law_act : Fun K "_law_act" "_law_act" sLawAct (fa 63) (fd 63)
  B__law_act : Binds K (fd 63) ["form", "m"] []
  G__law_act : mg "_law_act" = some (.ref (fa 63))
  F__law_change : Fun K "_law_change" "_law_change" sLawChange (fa 64) (fd 64)
  B__law_change : Binds K (fd 64) ["state", "many"] []
  G__law_change : mg "_law_change" = some (.ref (fa 64))
  F__law_square : Fun K "_law_square" "_law_square" sLawSquare (fa 65) (fd 65)
  B__law_square : Binds K (fd 65) ["n"] []
  G__law_square : mg "_law_square" = some (.ref (fa 65))
  F__law_kind : Fun K "_law_kind" "_law_kind" sLawKind (fa 66) (fd 66)
  B__law_kind : Binds K (fd 66) ["form"] []
  G__law_kind : mg "_law_kind" = some (.ref (fa 66))
  F__law_form : Fun K "_law_form" "_law_form" sLawForm (fa 67) (fd 67)
  B__law_form : Binds K (fd 67) ["state", "sort"] []
  G__law_form : mg "_law_form" = some (.ref (fa 67))
  F__law_search : Fun K "_law_search" "_law_search" sLawSearch (fa 68) (fd 68)
  B__law_search : Binds K (fd 68) ["form", "n"] []
  G__law_search : mg "_law_search" = some (.ref (fa 68))
  F_law : Fun K "law" "law" sLaw (fa 69) (fd 69)
  B_law : Binds K (fd 69) ["script"] []
  G_law : mg "law" = some (.ref (fa 69))
  g_WITNESSES : mg "WITNESSES" = some (.ref (fa 70))
  S_WITNESSES : ∀ H, SqT K H (fa 70) [.int 2, .int 3, .int 5, .int 7, .int 11, .int 13, .int 17, .int 19, .int 23, .int 29, .int 31, .int 37]
  g_UNIT : mg "UNIT" = some (.ref (fa 71))
  S_UNIT : ∀ H, SqT K H (fa 71) [.int 1, .int 0, .int 0, .int 1]
  g_UNITS_OF_3 : mg "UNITS_OF_3" = some (.ref (fa 72))
  S_UNITS_OF_3 : ∃ t0 t1 t2 t3 t4 t5 : Addr, (∀ H, SqT K H (fa 72) [.ref t0, .ref t1, .ref t2, .ref t3, .ref t4, .ref t5]) ∧ (∀ H, SqT K H t0 [.int 2, .int 0]) ∧ (∀ H, SqT K H t1 [.int 1, .int 1]) ∧ (∀ H, SqT K H t2 [.int (-1), .int 1]) ∧ (∀ H, SqT K H t3 [.int (-2), .int 0]) ∧ (∀ H, SqT K H t4 [.int (-1), .int (-1)]) ∧ (∀ H, SqT K H t5 [.int 1, .int (-1)])
  g_UNITS_OF_4 : mg "UNITS_OF_4" = some (.ref (fa 73))
  S_UNITS_OF_4 : ∃ t0 t1 t2 t3 : Addr, (∀ H, SqT K H (fa 73) [.ref t0, .ref t1, .ref t2, .ref t3]) ∧ (∀ H, SqT K H t0 [.int 2, .int 0]) ∧ (∀ H, SqT K H t1 [.int 0, .int 1]) ∧ (∀ H, SqT K H t2 [.int (-2), .int 0]) ∧ (∀ H, SqT K H t3 [.int 0, .int (-1)])
  g_OTHER_UNITS : mg "OTHER_UNITS" = some (.ref (fa 74))
  S_OTHER_UNITS : ∃ t0 t1 : Addr, (∀ H, SqT K H (fa 74) [.ref t0, .ref t1]) ∧ (∀ H, SqT K H t0 [.int 2, .int 0]) ∧ (∀ H, SqT K H t1 [.int (-2), .int 0])
  m_abs : mg "abs" = none
  m_bool : mg "bool" = none
  m_int : mg "int" = none
  m_isinstance : mg "isinstance" = none
  m_len : mg "len" = none
  m_list : mg "list" = none
  m_max : mg "max" = none
  m_range : mg "range" = none
  m_sorted : mg "sorted" = none
  m_tuple : mg "tuple" = none
  g_gcd : mg "gcd" = some (.builtin "math.gcd")
  g_isqrt : mg "isqrt" = some (.builtin "math.isqrt")

/-! ### heaps, draws -/
theorem same_upd {H : Hp} {p : Addr} {o : HO} (h : H p = none) : Same H (upd H p o) := fun b x e => by
  rw [upd_ne (ne_of_none e h)]
  exact e
theorem same_mut {H0 H : Hp} {p : Addr} {o : HO} (s : Same H0 H) (h : H0 p = none) : Same H0 (upd H p o) := fun b x e => by
  rw [upd_ne (ne_of_none e h)]
  exact s _ _ e
theorem same_off {H H' : Hp} {p : Addr} {o : HO} {q : Addr} (f : ∀ b, b ≠ p → H' b = H b) (n : q ≠ p) (h : H q = some o) : H' q = some o := by
  rw [f q n]
  exact h
/-- the state of the draws: the list at p, its numbers at a, at most N draws so far -/
def Dw (H : Hp) (p a : Addr) (N : Nat) : Prop := ∃ (m : Nat) (ns : List Int), m ≤ N ∧ a ≠ p ∧ H p = some (.lst [.ref a, .int (m : Int)]) ∧ H a = some (.lst (ns.map V.int)) ∧ ns.length = 120 ∧ ∀ n ∈ ns, 0 ≤ n ∧ n < 1000
theorem Dw.same {H H' : Hp} {p a : Addr} {N : Nat} (s : Same H H') (d : Dw H p a N) : Dw H' p a N := by
  obtain ⟨m, ns, h1, h2, h3, h4, h5⟩ := d
  exact ⟨m, ns, h1, h2, s _ _ h3, s _ _ h4, h5⟩
theorem Dw.mono {H : Hp} {p a : Addr} {N M : Nat} (d : Dw H p a N) (h : N ≤ M) : Dw H p a M := by
  obtain ⟨m, ns, h1, h2⟩ := d
  exact ⟨m, ns, Nat.le_trans h1 h, h2⟩
theorem Dw.new {H : Hp} {p a q : Addr} {o : HO} {N : Nat} (d : Dw H p a N) (h : H q = none) : Dw (upd H q o) p a N := d.same (same_upd h)
theorem Dw.ne {H : Hp} {p a q : Addr} {N : Nat} (d : Dw H p a N) (h : H q = none) : q ≠ p ∧ q ≠ a := by
  obtain ⟨m, ns, h1, h2, h3, h4, h5⟩ := d
  exact ⟨(ne_of_none h3 h).symm, (ne_of_none h4 h).symm⟩
theorem Dw.mut {H : Hp} {p a q : Addr} {o : HO} {N : Nat} (d : Dw H p a N) (hp : q ≠ p) (ha : q ≠ a) : Dw (upd H q o) p a N := by
  obtain ⟨m, ns, h1, h2, h3, h4, h5⟩ := d
  exact ⟨m, ns, h1, h2, by rw [upd_ne hp.symm]; exact h3, by rw [upd_ne ha.symm]; exact h4, h5⟩
theorem at_mem {α : Type} {xs : List α} {r : Int} (h0 : 0 ≤ r) (h1 : r < xs.length) : ∃ v, v ∈ xs ∧ atI xs r = some v := by
  obtain ⟨j, rfl⟩ := Int.eq_ofNat_of_zero_le h0
  have hj : j < xs.length := by omega
  exact ⟨xs[j], List.getElem_mem hj, atI_nat (List.getElem?_eq_getElem hj)⟩
theorem at_int {ns : List Int} {r : Int} (h0 : 0 ≤ r) (h1 : r < ns.length) : ∃ n ∈ ns, atI (ns.map V.int) r = some (.int n) := by
  obtain ⟨v, hv, e⟩ := at_mem (xs := ns.map V.int) h0 (by rw [List.length_map]; exact h1)
  obtain ⟨n, hn, rfl⟩ := List.mem_map.mp hv
  exact ⟨n, hn, e⟩
theorem pow_ok {i j : Int} (h : 0 ≤ j ∧ j ≤ 1000000 ∧ i.natAbs < 2 ^ 64) : CPow i j := h
theorem wayF {c A B : Prop} [Decidable c] (h : ¬ c) (b : B) : if decide c = true then A else B := by
  rw [if_neg (fun z => h (of_decide_eq_true z))]
  exact b
theorem wayT {c A B : Prop} [Decidable c] (h : c) (a : A) : if decide c = true then A else B := by
  rw [if_pos (decide_eq_true h)]
  exact a
theorem wayNF {c A B : Prop} [Decidable c] (h : c) (b : B) : if (!decide c) = true then A else B := by
  rw [decide_eq_true h]
  exact iteF b
theorem wayNT {c A B : Prop} [Decidable c] (h : ¬ c) (a : A) : if (!decide c) = true then A else B := by
  rw [decide_eq_false h]
  exact iteT a
theorem way2 {c A B : Prop} [Decidable c] (h1 : c → A) (h2 : ¬ c → B) : if decide c = true then A else B := by
  by_cases h : c
  · exact wayT h (h1 h)
  · exact wayF h (h2 h)
theorem wayN2 {c A B : Prop} [Decidable c] (h1 : ¬ c → A) (h2 : c → B) : if (!decide c) = true then A else B := by
  by_cases h : c
  · exact wayNF h (h2 h)
  · exact wayNT h (h1 h)
theorem abs_int (i : Int) : (if i < 0 then -i else i) = (i.natAbs : Int) := by
  split <;> omega
theorem small200 {n : Nat} (h : n ≤ 1000) : n ≤ sizeLine := Nat.le_of_lt (small1000 h)
/-! ### data: == of lists and tuples -/
theorem dp_ints {K : PySem.W.Frag} {H : Hp} : ∀ ns : List Int, DpAll K H (ns.map V.int) (ns.map PyData.int)
  | [] => .nil
  | n :: ns => .cons (.int n) (dp_ints ns)
theorem lay_ints : ∀ ns : List Int, PyData.canLayAll0 (ns.map PyData.int) = true
  | [] => rfl
  | n :: ns => by
    rw [List.map_cons, PyData.canLayAll0, lay_ints ns]
    rfl
theorem depth_ints : ∀ ns : List Int, PyData.depthAll (ns.map PyData.int) = 0
  | [] => rfl
  | n :: ns => by
    rw [List.map_cons, PyData.depthAll, depth_ints ns]
    rfl
theorem shaped_ints (ns : List Int) : SeqAt.shaped (.list (ns.map PyData.int)) = true := by
  show (PyData.canLay0 (.list (ns.map PyData.int)) && decide (PyData.depth (.list (ns.map PyData.int)) ≤ 64)) = true
  rw [Bool.and_eq_true]
  refine ⟨by rw [PyData.canLay0]; exact lay_ints ns, decide_eq_true ?_⟩
  rw [PyData.depth, depth_ints]
  decide
theorem shaped_intsT (ns : List Int) : SeqAt.shaped (.tuple (ns.map PyData.int)) = true := by
  show (PyData.canLay0 (.tuple (ns.map PyData.int)) && decide (PyData.depth (.tuple (ns.map PyData.int)) ≤ 64)) = true
  rw [Bool.and_eq_true]
  refine ⟨by rw [PyData.canLay0]; exact lay_ints ns, decide_eq_true ?_⟩
  rw [PyData.depth, depth_ints]
  decide
theorem eqD_same {K : PySem.W.Frag} {H : Hp} {x y : V} {Q : VK} {d : PyData} (hx : Dp K H x d) (hy : Dp K H y d) (sh : SeqAt.shaped d = true) (q : Q (.bl true) H) : rEqD K x y H Q :=
  ⟨d, d, hx, hy, sh, sh, by rw [SeqAt.eqv_refl d (SeqAt.canLay_of_shaped sh)]; exact q⟩
theorem neD_same {K : PySem.W.Frag} {H : Hp} {x y : V} {Q : VK} {d : PyData} (hx : Dp K H x d) (hy : Dp K H y d) (sh : SeqAt.shaped d = true) (q : Q (.bl false) H) : rNeD K x y H Q :=
  ⟨d, d, hx, hy, sh, sh, by rw [SeqAt.eqv_refl d (SeqAt.canLay_of_shaped sh)]; exact q⟩
/-! ### slices -/
theorem cut_to (ns : List Int) (k : Nat) : cutV (ns.map V.int) none (some (k : Int)) = (ns.take k).map V.int := by
  unfold cutV
  rw [HT.sIx_none, HT.sIx_nat, List.drop_zero, List.map_take, Nat.sub_zero, List.length_map]
  by_cases h : k ≤ ns.length
  · rw [Nat.min_eq_left h]
  · rw [Nat.min_eq_right (by omega), List.take_of_length_le (by rw [List.length_map]; omega), List.take_of_length_le (by rw [List.length_map]; omega)]
theorem cut_from (xs : List V) (k : Nat) : cutV xs (some (k : Int)) none = xs.drop k := by
  unfold cutV
  rw [HT.sIx_none, HT.sIx_nat]
  by_cases h : k ≤ xs.length
  · rw [Nat.min_eq_left h, List.take_of_length_le (by rw [List.length_drop]; omega)]
  · rw [Nat.min_eq_right (by omega), List.drop_of_length_le (by omega), List.drop_of_length_le (by omega)]
    exact List.take_nil
theorem isiF {K : PySem.W.Frag} {H : Hp} {i : Int} {Q : VK} (q : Q (.bl false) H) : rIsi K [.int i, .ty "bool"] H Q := ⟨_, _, _, _, false, rfl, ClsV.ty _, TyX.base (.int i), kit_ty (by decide +kernel), q⟩
theorem isiT {K : PySem.W.Frag} {H : Hp} {b : Bool} {Q : VK} (q : Q (.bl true) H) : rIsi K [.bl b, .ty "bool"] H Q := ⟨_, _, _, _, true, rfl, ClsV.ty _, TyX.base (.bl b), kit_ty (by decide +kernel), q⟩
theorem isiTup {K : PySem.W.Frag} {H : Hp} {a : Addr} {xs : List V} {Q : VK} (h : H a = some (.tup xs)) (q : Q (.bl true) H) : rIsi K [.ref a, .ty "tuple"] H Q := ⟨_, _, _, _, true, rfl, ClsV.ty _, TyX.base (.tup h), kit_ty (by decide +kernel), q⟩
theorem isiLst {K : PySem.W.Frag} {H : Hp} {a : Addr} {xs : List V} {Q : VK} (h : H a = some (.lst xs)) (q : Q (.bl true) H) : rIsi K [.ref a, .ty "list"] H Q := ⟨_, _, _, _, true, rfl, ClsV.ty _, TyX.base (.lst h), kit_ty (by decide +kernel), q⟩
/-! ### rules with the written part named -/
section
variable {X : Cx}
def rLenQ (K : PySem.W.Frag) : List V → Hp → VK → Prop := fun xs H Q => ∃ p ys, xs = [.ref p] ∧ (SqL K H p ys ∨ SqT K H p ys) ∧ Q (.int ys.length) H
def rListQ (K : PySem.W.Frag) : List V → Hp → VK → Prop := fun xs H Q => ∃ p ys, xs = [.ref p] ∧ (SqL K H p ys ∨ SqT K H p ys) ∧ ∀ l, H l = none → Q (.ref l) (upd H l (.lst ys))
def rTupQ (K : PySem.W.Frag) : List V → Hp → VK → Prop := fun xs H Q => ∃ p ys, xs = [.ref p] ∧ ((SqL K H p ys ∧ ∀ l, H l = none → Q (.ref l) (upd H l (.tup ys))) ∨ (SqT K H p ys ∧ Q (.ref p) H))
theorem ixL (K : PySem.W.Frag) (h : X.K = K := by rfl) : IxR X (rIxL K) := by subst h; exact ix_list
theorem ixT (K : PySem.W.Frag) (h : X.K = K := by rfl) : IxR X (rIxT K) := by subst h; exact ix_tup
theorem slL (K : PySem.W.Frag) (h : X.K = K := by rfl) : SlR X (rSlL K) := by subst h; exact sl_list
theorem slT (K : PySem.W.Frag) (h : X.K = K := by rfl) : SlR X (rSlT K) := by subst h; exact sl_tup
theorem lenQ (K : PySem.W.Frag) (h : X.K = K := by rfl) : CallR X (.builtin "len") (rLenQ K) := by subst h; exact call_len_seq
theorem listQ (K : PySem.W.Frag) (h : X.K = K := by rfl) : CallR X (.type "list") (rListQ K) := by subst h; exact call_list_of
theorem tupQ (K : PySem.W.Frag) (h : X.K = K := by rfl) : CallR X (.type "tuple") (rTupQ K) := by subst h; exact call_tuple_of
theorem isiQ (K : PySem.W.Frag) (h : X.K = K := by rfl) : CallR X (.builtin "isinstance") (rIsi K) := by subst h; exact call_isi
theorem eqDQ (K : PySem.W.Frag) (hu : X.A.units + 64 < cLine) (h : X.K = K := by rfl) : OpR X (compareOp .Eq) (rEqD K) := by subst h; exact op_eqD hu
theorem neDQ (K : PySem.W.Frag) (hu : X.A.units + 64 < cLine) (h : X.K = K := by rfl) : OpR X (compareOp .NotEq) (rNeD K) := by subst h; exact op_neD hu
theorem piL (K : PySem.W.Frag) {tg l : Expr} {tl : TE} (hl : PE X l tl) (h : X.K = K := by rfl) : PI X tg l (iList K tl) := by subst h; exact pi_list hl
theorem piT (K : PySem.W.Frag) {tg l : Expr} {tl : TE} (hl : PE X l tl) (h : X.K = K := by rfl) : PI X tg l (iTup K tl) := by subst h; exact pi_tup hl
theorem inQ (K : PySem.W.Frag) (h : X.K = K := by rfl) : OpR X (compareOp .In) (rIn K false) := by subst h; exact op_in_seq
theorem notInQ (K : PySem.W.Frag) (h : X.K = K := by rfl) : OpR X (compareOp .NotIn) (rIn K true) := by subst h; exact op_notIn_seq
end
/-! ### great numbers -/
section
variable {X : Cx}
/-- // by any divisor below 2 ^ 9000 -/
def CDivX (_ j : Int) : Prop := j ≠ 0 ∧ j.natAbs < 2 ^ 9000
theorem op_fdivX : OpR X (binaryOp .FloorDiv) (rI CDivX fun i j => .int (i.fdiv j)) := opI fun i j _ _ _ _ _ hc q =>
  floordiv_int hc.1 q (.inl (PyProof.noPylong_of_log2 (PySem.Flt.log2_lt_of (by decide) hc.2)))
end
theorem pow_up {n a b : Nat} (h : n < 2 ^ a) (hab : a ≤ b) : n < 2 ^ b := Nat.lt_of_lt_of_le h (Nat.pow_le_pow_right (by decide) hab)

/-! ### bounds by powers of two -/
def Bd (n : Nat) (x : Int) : Prop := x.natAbs < 2 ^ n
theorem Bd.mono {n m : Nat} {x : Int} (h : Bd n x) (l : n ≤ m) : Bd m x := Nat.lt_of_lt_of_le h (Nat.pow_le_pow_right (by decide) l)
theorem Bd.mul {n m : Nat} {x y : Int} (h1 : Bd n x) (h2 : Bd m y) : Bd (n + m) (x * y) := wide_lt h1 h2
theorem Bd.add {n m : Nat} {x y : Int} (h1 : Bd n x) (h2 : Bd m y) : Bd (max n m + 1) (x + y) := by
  have a1 := h1.mono (Nat.le_max_left n m)
  have a2 := h2.mono (Nat.le_max_right n m)
  unfold Bd at *
  rw [Nat.pow_succ]
  omega
theorem Bd.neg {n : Nat} {x : Int} (h : Bd n x) : Bd n (-x) := by
  unfold Bd at *
  rw [Int.natAbs_neg]
  exact h
theorem Bd.sub {n m : Nat} {x y : Int} (h1 : Bd n x) (h2 : Bd m y) : Bd (max n m + 1) (x - y) := by
  have h := h1.add h2.neg
  rw [← Int.sub_eq_add_neg] at h
  exact h
theorem Bd.l8 {x : Int} (h : (x.natAbs < 2 ^ 8) = True) : Bd 8 x := of_eq_true h
theorem Bd.lit {x : Int} (h : (x.natAbs < 2 ^ 64) = True) : Bd 64 x := of_eq_true h
theorem Bd.om {x : Int} (h : x.natAbs < 1152921504606846976) : Bd 60 x := h
theorem Bd.fdiv {n : Nat} {x y : Int} (h : Bd n x) : Bd n (x.fdiv y) := by
  unfold Bd at *
  exact Nat.lt_of_le_of_lt (Int.natAbs_fdiv_le_natAbs x y) h
theorem Bd.mod {n : Nat} {x y : Int} (h : Bd n y) (hy : y ≠ 0) : Bd n (x % y) := by
  unfold Bd at *
  have h0 := Int.emod_nonneg x hy
  have h1 := Int.emod_lt x hy
  omega
theorem Bd.abs {n : Nat} {x : Int} (h : Bd n x) : Bd n (x.natAbs : Int) := by
  unfold Bd at *
  rw [Int.natAbs_natCast]
  exact h
theorem Bd.div {n : Nat} {x y : Int} (h : Bd n x) : Bd n (x / y) := by
  unfold Bd at *
  exact Nat.lt_of_le_of_lt (Int.natAbs_ediv_le_natAbs x y) h
theorem bdm {n m : Nat} {x : Int} (h : Bd n x) (l : Nat.ble n m = true) : Bd m x := h.mono (Nat.le_of_ble_eq_true l)
theorem Bd.of {n : Nat} {x : Int} {m : Nat} (h : x.natAbs ≤ m) (l : m < 2 ^ n) : Bd n x := Nat.lt_of_le_of_lt h l
theorem Bd.mulW {n m : Nat} {x y : Int} (h1 : Bd n x) (h2 : Bd m y) (l : n + m ≤ 900000) : CMulW x y :=
  wide_mul (a := n + 1) (b := m + 1) (h1.mono (Nat.le_succ n)) (h2.mono (Nat.le_succ m)) (Nat.succ_pos n) (Nat.succ_pos m) (by omega)
theorem Bd.x4 {n m : Nat} {x y : Int} (h1 : Bd n x) (l : n ≤ m) (h : y = x) : Bd m y := h ▸ h1.mono l
/-! ### heaps -/
theorem same_seqT {K : PySem.W.Frag} {H H' : Hp} {a : Addr} {xs : List V} (e : Same H H') (h : SqT K H a xs) : SqT K H' a xs := by
  rcases h with (h | ⟨o, h⟩) | h
  · exact .inl (.inl (e _ _ h))
  · exact .inl (.inr ⟨o, e _ _ h⟩)
  · exact .inr h
/-- tuples stay -/
def KT (K : PySem.W.Frag) (H H' : Hp) : Prop := ∀ a xs, SqT K H a xs → SqT K H' a xs
/-- all but p stays -/
def Frm (p : Addr) (H H' : Hp) : Prop := ∀ b, b ≠ p → H' b = H b
/-- all that was tracked, but p, stays -/
def Kp (p : Addr) (H H' : Hp) : Prop := ∀ b o, b ≠ p → H b = some o → H' b = some o
theorem same_kt {K : PySem.W.Frag} {H H' : Hp} (e : Same H H') : KT K H H' := fun _ _ h => same_seqT e h
theorem same_kp {p : Addr} {H H' : Hp} (e : Same H H') : Kp p H H' := fun b o _ h => e b o h
theorem frm_kp {p : Addr} {H H' : Hp} (f : Frm p H H') : Kp p H H' := fun b o n h => (f b n).trans h
theorem Kp.refl {p : Addr} {H : Hp} : Kp p H H := fun b o _ h => h
theorem Kp.trans {p : Addr} {H H1 H2 : Hp} (a : Kp p H H1) (b : Kp p H1 H2) : Kp p H H2 := fun c o n h => b c o n (a c o n h)
theorem KT.trans {K : PySem.W.Frag} {H H1 H2 : Hp} (a : KT K H H1) (b : KT K H1 H2) : KT K H H2 := fun c xs h => b c xs (a c xs h)
theorem KT.refl {K : PySem.W.Frag} {H : Hp} : KT K H H := fun _ _ h => h
theorem kpB {p : Addr} {H H1 H' : Hp} (e : Kp p H1 H') (s : Kp p H H1) : Kp p H H' := s.trans e
theorem sameB {H H1 H' : Hp} (e : Same H1 H') (s : Same H H1) : Same H H' := s.trans e
theorem same_at {H H' : Hp} {a : Addr} {o : HO} (e : Same H H') (h : H a = some o) : H' a = some o := e _ _ h
theorem kp_at {p : Addr} {H H' : Hp} {a : Addr} {o : HO} (e : Kp p H H') (n : a ≠ p) (h : H a = some o) : H' a = some o := e _ _ n h
theorem KT.use {K : PySem.W.Frag} {H H' : Hp} {a : Addr} {xs : List V} (e : KT K H H') (h : SqT K H a xs) : SqT K H' a xs := e a xs h
theorem Kp.kt {K : PySem.W.Frag} {H H' : Hp} {p a : Addr} {N : Nat} (f : Kp p H H') (d : Dw H p a N) : KT K H H' := fun c xs h => by
  obtain ⟨m, ns, h1, h2, h3, h4⟩ := d
  rcases h with (h | ⟨o, h⟩) | h
  · refine .inl (.inl (f c _ ?_ h))
    rintro rfl
    rw [h3] at h
    cases h
  · refine .inl (.inr ⟨o, f c _ ?_ h⟩)
    rintro rfl
    rw [h3] at h
    cases h
  · exact .inr h
theorem kp_seqT {K : PySem.W.Frag} {H H' : Hp} {p a b : Addr} {N : Nat} {xs : List V} (f : Kp p H H') (d : Dw H p a N) (h : SqT K H b xs) : SqT K H' b xs := f.kt d b xs h
theorem Kp.seqL {K : PySem.W.Frag} {p : Addr} {H H' : Hp} {a : Addr} {xs : List V} (f : Kp p H H') (n : a ≠ p) (h : SqL K H a xs) : SqL K H' a xs := by
  rcases h with (h | ⟨o, h⟩) | h
  · exact .inl (.inl (f _ _ n h))
  · exact .inl (.inr ⟨o, f _ _ n h⟩)
  · exact .inr h
theorem Dw.kp0 {H : Hp} {p a q : Addr} {o : HO} (h : H q = none) : Kp p H (upd H q o) := same_kp (same_upd h)
theorem fresh_ne {H : Hp} {o p a : Addr} {N : Nat} (h : H o = none) (d : Dw H p a N) : o ≠ p := (d.ne h).1
section
variable {X : Cx}
def rAbs (_ : PySem.W.Frag) : List V → Hp → VK → Prop := fun xs H Q => ∃ i : Int, xs = [.int i] ∧ Q (.int (i.natAbs : Int)) H
def rInt (_ : PySem.W.Frag) : List V → Hp → VK → Prop := fun xs H Q => (∃ i : Int, xs = [.int i] ∧ Q (.int i) H) ∨ ∃ k : Bool, xs = [.bl k] ∧ Q (.int (if k then 1 else 0)) H
theorem absQ (K : PySem.W.Frag) : CallR X (.builtin "abs") (rAbs K) := by
  intro pins s σ H xs us Q I r h
  obtain ⟨i, e, q⟩ := h
  exact call_abs pins s σ H xs us Q I r ⟨i, e, by rw [abs_int]; exact q⟩
theorem intQ (K : PySem.W.Frag) : CallR X (.type "int") (rInt K) := call_int1
theorem minQ (K : PySem.W.Frag) (hc : X.calm = true := by rfl) (h : X.K = K := by rfl) : CallR X (.builtin "min") (rMin K) := by
  subst h
  exact cr_min hc
theorem pgT (K : PySem.W.Frag) (n : Nat) {es : List Expr} {k : Nat} {pos : Pos} {t : TGs} (hc : X.calm = true) (h : PGs X es t) (hn : (assignEach es X.env).length = n := by rfl) (hst : (assignEach es X.env).findIdx? (·.1) = none := by rfl) (hK : X.K = K := by rfl) : PG X (.Tuple es k pos) (gTup K n t) := by
  subst hK
  exact pg_tup hc h hn hst
end
namespace R
section
variable {K : PySem.W.Frag} {σ : L2.St} {H : Hp} {Q : VK} {ta tb te : TE} {v x y : V} {i j : Int}
theorem var {n : Nat} (h : σ[n]? = some (some v)) (q : Q v H) : tVar n σ H Q := ⟨v, h, q⟩
theorem con (q : Q v H) : tC v σ H Q := q
theorem op {r : R2} (h : ta σ H fun x H1 => tb σ H1 fun y H2 => r x y H2 Q) : tOp r ta tb σ H Q := h
theorem un {r : V → Hp → VK → Prop} (h : ta σ H fun x H1 => r x H1 Q) : tUn r ta σ H Q := h
theorem i0 {g : Int → Int → V} (q : Q (g i j) H) : rI0 g (.int i) (.int j) H Q := ⟨i, j, rfl, rfl, q⟩
theorem i2 {C : Int → Int → Prop} {g : Int → Int → V} (c : C i j) (q : Q (g i j) H) : rI C g (.int i) (.int j) H Q := ⟨i, j, rfl, rfl, c, q⟩
theorem u1 {g : Int → V} (q : Q (g i) H) : rU g (.int i) H Q := ⟨i, rfl, q⟩
theorem ixT {p : Addr} {xs : List V} (h : SqT K H p xs) (e : atI xs i = some v) (q : Q v H) : rIxT K (.ref p) (.int i) H Q := ⟨p, xs, i, v, rfl, rfl, h, e, q⟩
theorem ixL {p : Addr} {xs : List V} (h : SqL K H p xs) (e : atI xs i = some v) (q : Q v H) : rIxL K (.ref p) (.int i) H Q := ⟨p, xs, i, v, rfl, rfl, h, e, q⟩
theorem nil {Q : List V → Hp → Prop} (q : Q [] H) : tNil σ H Q := q
theorem cons {tr : TA} {Q : List V → Hp → Prop} (h : ta σ H fun x H1 => tr σ H1 fun xs H2 => Q (x :: xs) H2) : tCons ta tr σ H Q := h
/-- what is wanted of a new tuple, a new list -/
def NwT (H : Hp) (xs : List V) (Q : VK) : Prop := xs.length ≤ sizeLine ∧ ∀ p, H p = none → Q (.ref p) (upd H p (.tup xs))
def NwL (H : Hp) (xs : List V) (Q : VK) : Prop := xs.length ≤ sizeLine ∧ ∀ p, H p = none → Q (.ref p) (upd H p (.lst xs))
def Nw (H : Hp) (xs : List V) (Q : VK) : Prop := ∀ H' t, Same H H' → H' t = some (.tup xs) → Q (.ref t) H'
theorem nw {xs : List V} (h : ∀ H' t, Same H H' → H' t = some (.tup xs) → Q (.ref t) H') : Nw H xs Q := h
def Mt (H : Hp) (xs : List V) (Q : VK) : Prop := ∀ H' p, Same H H' → H p = none → H' p = some (.tup xs) → Q (.ref p) H'
def Ml (H : Hp) (xs : List V) (Q : VK) : Prop := ∀ H' p, Same H H' → H p = none → H' p = some (.lst xs) → Q (.ref p) H'
theorem mt {xs : List V} (h : ∀ H' p, Same H H' → H p = none → H' p = some (.tup xs) → Q (.ref p) H') : Mt H xs Q := h
theorem ml {xs : List V} (h : ∀ H' p, Same H H' → H p = none → H' p = some (.lst xs) → Q (.ref p) H') : Ml H xs Q := h
theorem tup {t : TA} (h : t σ H fun xs H1 => NwT H1 xs Q) : tTup t σ H Q := h
theorem lst {t : TA} (h : t σ H fun xs H1 => NwL H1 xs Q) : tLst t σ H Q := h
theorem nwT {xs : List V} (l : Nat.ble xs.length 1000 = true) (q : Mt H xs Q) : NwT H xs Q :=
  ⟨Nat.le_of_lt (small1000 (Nat.le_of_ble_eq_true l)), fun p n => q _ p (same_upd n) n upd_same⟩
theorem nwL {xs : List V} (l : Nat.ble xs.length 1000 = true) (q : Ml H xs Q) : NwL H xs Q :=
  ⟨Nat.le_of_lt (small1000 (Nat.le_of_ble_eq_true l)), fun p n => q _ p (same_upd n) n upd_same⟩
theorem call {sp : Sp} {dvs : List V} {E : XK} {t : TA} (h : t σ H fun vs H1 => sp (vs ++ dvs) H1 Q E) : tCall sp dvs E t σ H Q := h
theorem callB {r : List V → Hp → VK → Prop} {t : TA} (h : t σ H fun vs H1 => r vs H1 Q) : tCB r t σ H Q := h
theorem gname {n : Nat} {Q : L2.St → Hp → Prop} (h : Q (σ.set n (some v)) H) : gName n v σ H Q := h
theorem gtup {n : Nat} {t : TGs} {a : Addr} {xs : List V} {Q : L2.St → Hp → Prop} (h1 : SqT K H a xs) (h2 : xs.length = n) (h : t xs σ H Q) : gTup K n t (.ref a) σ H Q := ⟨a, xs, rfl, h1, h2, h⟩
theorem gcons {t : TG} {u : TGs} {r : List V} {Q : L2.St → Hp → Prop} (h : t v σ H fun σ' H' => u r σ' H' Q) : gCons t u (v :: r) σ H Q := ⟨v, r, rfl, h⟩
theorem gnil {Q : L2.St → Hp → Prop} (h : Q σ H) : gNil [] σ H Q := ⟨rfl, h⟩
variable {nx : L2.St → Hp → Prop} {rt : VK} {bk ct : L2.St → Hp → Prop} {t u : TS} {c : TT}
theorem seq (h : t (Ends.mk (u (Ends.mk nx rt bk ct)) rt bk ct) σ H) : tSeq t u (Ends.mk nx rt bk ct) σ H := h
theorem asg {g : TG} (h : te σ H fun x H1 => g x σ H1 nx) : tAsg te g (Ends.mk nx rt bk ct) σ H := h
theorem brk (h : bk σ H) : tBreak (Ends.mk nx rt bk ct) σ H := h
theorem cont (h : ct σ H) : tCont (Ends.mk nx rt bk ct) σ H := h
theorem ret (h : te σ H rt) : tRet te (Ends.mk nx rt bk ct) σ H := h
theorem next (h : nx σ H) : tNext (Ends.mk nx rt bk ct) σ H := h
theorem drop (h : te σ H fun _ H1 => nx σ H1) : tDrop te (Ends.mk nx rt bk ct) σ H := h
theorem par {i j : Nat} {ta : TA} (h : ta σ H fun vs H1 => ∃ v w, vs = [v, w] ∧ nx ((σ.set i (some v)).set j (some w)) H1) : tPar i j ta (Ends.mk nx rt bk ct) σ H := h
theorem par3 {i j l : Nat} {ta : TA} (h : ta σ H fun vs H1 => ∃ u v w, vs = [u, v, w] ∧ nx (((σ.set i (some u)).set j (some v)).set l (some w)) H1) : tPar3 i j l ta (Ends.mk nx rt bk ct) σ H := h
theorem par4 {z : V} {P : V → V → V → Prop} (h : P x y z) : ∃ u v w, [x, y, z] = [u, v, w] ∧ P u v w := ⟨x, y, z, rfl, h⟩
theorem par2 {P : V → V → Prop} (h : P x y) : ∃ v w, [x, y] = [v, w] ∧ P v w := ⟨x, y, rfl, h⟩
theorem ifs (h : c σ H fun b H1 => if b = true then t (Ends.mk nx rt bk ct) σ H1 else u (Ends.mk nx rt bk ct) σ H1) : tIfS c t u (Ends.mk nx rt bk ct) σ H := h
theorem tif (h : c σ H fun b H1 => if b = true then ta σ H1 Q else tb σ H1 Q) : tIf c ta tb σ H Q := h
theorem test {Q : Bool → Hp → Prop} (h : te σ H fun x H' => ∃ k, x = .bl k ∧ Q k H') : tTest te σ H Q := h
theorem tb' {Q : Bool → Hp → Prop} (h : te σ H fun x H' => ∃ k, x = .bl k ∧ Q k H') : tB te σ H Q := h
theorem isbl {b : Bool} {P : Bool → Prop} (h : P b) : ∃ k, V.bl b = .bl k ∧ P k := ⟨b, rfl, h⟩
theorem cmp {p : Int → Int → Bool} (h : t2I ta tb (fun i j H2 => Q (.bl (p i j)) H2) σ H) : tCmp p ta tb σ H Q := h
theorem t2i {k : Int → Int → Hp → Prop} (h : ta σ H fun x H1 => tb σ H1 fun y H2 => ∃ i j, x = .int i ∧ y = .int j ∧ k i j H2) : t2I ta tb k σ H := h
theorem intp {k : Int → Int → Prop} (h : k i j) : ∃ a b : Int, V.int i = .int a ∧ V.int j = .int b ∧ k a b := ⟨i, j, rfl, rfl, h⟩
theorem cut {Mid : L2.St → Hp → Prop} (h1 : t (Ends.mk Mid rt bk ct) σ H) (h2 : ∀ σ' H', Mid σ' H' → u (Ends.mk nx rt bk ct) σ' H') : C8.tCut t u (Ends.mk nx rt bk ct) σ H := ⟨Mid, h1, h2⟩
variable {d : TT}
theorem and {Q : Bool → Hp → Prop} (h : c σ H fun k H1 => if k = true then d σ H1 Q else Q false H1) : tAnd c d σ H Q := h
theorem or {Q : Bool → Hp → Prop} (h : c σ H fun k H1 => if k = true then Q true H1 else d σ H1 Q) : tOr c d σ H Q := h
theorem not {Q : Bool → Hp → Prop} (h : c σ H fun k H1 => Q (!k) H1) : tNot c σ H Q := h
theorem andV (h : ta σ H fun x H1 => ∃ c, x = .bl c ∧ if c = true then tb σ H1 Q else Q (.bl false) H1) : tAndV ta tb σ H Q := h
theorem orV (h : ta σ H fun x H1 => ∃ c, x = .bl c ∧ if c = true then Q (.bl true) H1 else tb σ H1 Q) : tOrV ta tb σ H Q := h
theorem notV (h : ta σ H fun x H1 => ∃ c, x = .bl c ∧ Q (.bl (!c)) H1) : tNotV ta σ H Q := h
theorem chain {r r' : R2} {tc : TE} (h : ta σ H fun x H1 => tb σ H1 fun y H2 => r x y H2 fun z H3 => ∃ k, z = .bl k ∧ (if k = true then tc σ H3 fun w' H4 => r' y w' H4 Q else Q (.bl false) H3)) : tChain r r' ta tb tc σ H Q := h
theorem tupL {p : Addr} {ys : List V} (h : SqL K H p ys) (q : Mt H ys Q) : rTupQ K [.ref p] H Q := ⟨p, ys, rfl, .inl ⟨h, fun l n => q _ l (same_upd n) n upd_same⟩⟩
theorem lstL {p : Addr} {ys : List V} (h : SqL K H p ys) (q : Ml H ys Q) : rListQ K [.ref p] H Q := ⟨p, ys, rfl, .inl h, fun l n => q _ l (same_upd n) n upd_same⟩
theorem cat {l b : Addr} {xs zs : List V} (h1 : H l = some (.lst xs)) (h2 : H b = some (.lst zs)) (z : Nat.ble (xs.length + zs.length) 100000 = true) (q : Ml H (xs ++ zs) Q) : rCat (.ref l) (.ref b) H Q :=
  ⟨l, b, xs, zs, rfl, rfl, h1, h2, Nat.le_of_lt (Nat.lt_of_le_of_lt (Nat.le_of_ble_eq_true z) (by decide)), fun p n => q _ p (same_upd n) n upd_same⟩
theorem sl {r : V → Option Int → Option Int → Hp → VK → Prop} {tl th : TO} (h : te σ H fun x H1 => tl σ H1 fun l H2 => th σ H2 fun u H3 => r x l u H3 Q) : tSl r te tl th σ H Q := h
theorem noPart {Q : Option Int → Hp → Prop} (h : Q none H) : tNoPart σ H Q := h
theorem part {Q : Option Int → Hp → Prop} (h : te σ H fun x H1 => ∃ i, x = .int i ∧ Q (some i) H1) : tPart te σ H Q := h
theorem isInt {P : Int → Prop} (h : P i) : ∃ k, V.int i = .int k ∧ P k := ⟨i, rfl, h⟩
theorem slL {a : Addr} {xs : List V} {lo hi : Option Int} (h : SqL K H a xs) (q : Ml H (cutV xs lo hi) Q) : rSlL K (.ref a) lo hi H Q := ⟨a, xs, rfl, h, fun p n => q _ p (same_upd n) n upd_same⟩
theorem absI (q : Q (.int (i.natAbs : Int)) H) : rAbs K [.int i] H Q := ⟨i, rfl, q⟩
theorem intI (q : Q (.int i) H) : rInt K [.int i] H Q := .inl ⟨i, rfl, q⟩
theorem intB {b : Bool} (q : Q (.int (if b then 1 else 0)) H) : rInt K [.bl b] H Q := .inr ⟨b, rfl, q⟩
theorem lenT {p : Addr} {ys : List V} (h : SqT K H p ys) (q : Q (.int (ys.length : Int)) H) : rLenQ K [.ref p] H Q := ⟨p, ys, rfl, .inr h, q⟩
theorem lenL {p : Addr} {ys : List V} (h : SqL K H p ys) (q : Q (.int (ys.length : Int)) H) : rLenQ K [.ref p] H Q := ⟨p, ys, rfl, .inl h, q⟩
theorem eqS {a b : Str} (q : Q (.bl (decide (V.str a = V.str b))) H) : rEq (.str a) (.str b) H Q := ⟨rfl, q⟩
theorem eqBl {a b : Bool} (q : Q (.bl (decide (V.bl a = V.bl b))) H) : rEq (.bl a) (.bl b) H Q := ⟨rfl, q⟩
theorem neBl {a b : Bool} (q : Q (.bl (!decide (V.bl a = V.bl b))) H) : rNe (.bl a) (.bl b) H Q := ⟨rfl, q⟩
theorem isiTupS {a : Addr} {xs : List V} (h : SqT K H a xs) (q : Q (.bl true) H) : rIsi K [.ref a, .ty "tuple"] H Q := by
  rcases h with (h | ⟨o, h⟩) | ⟨o, its, n, h1, h2, _⟩
  · exact Wc.isiTup h q
  · exact ⟨_, _, _, _, true, rfl, ClsV.ty _, TyX.fTuple h, kit_ty (by decide +kernel), q⟩
  · exact ⟨_, _, _, _, true, rfl, ClsV.ty _, TyX.kTuple h1 h2, kit_ty (by decide +kernel), q⟩
theorem slT {a : Addr} {xs : List V} {lo hi : Option Int} (h : SqT K H a xs) (n : ¬ (HT.sIx xs.length 0 lo = 0 ∧ HT.sIx xs.length xs.length hi = xs.length)) (q : Mt H (cutV xs lo hi) Q) : rSlT K (.ref a) lo hi H Q := ⟨a, xs, rfl, h, n, fun p nn => q _ p (same_upd nn) nn upd_same⟩
theorem isiT {b : Bool} (q : Q (.bl true) H) : rIsi K [.bl b, .ty "bool"] H Q := Wc.isiT q
theorem isiTup {a : Addr} {xs : List V} (h : H a = some (.tup xs)) (q : Q (.bl true) H) : rIsi K [.ref a, .ty "tuple"] H Q := Wc.isiTup h q
theorem isiLst {a : Addr} {xs : List V} (h : H a = some (.lst xs)) (q : Q (.bl true) H) : rIsi K [.ref a, .ty "list"] H Q := Wc.isiLst h q
/-! == of tuples of ints -/
theorem eqB {ns ms : List Int} : PyData.eqv (.tuple (ns.map PyData.int)) (.tuple (ms.map PyData.int)) = decide (ns = ms) := by
  have h : ∀ ns ms : List Int, PyData.eqvAll (ns.map PyData.int) (ms.map PyData.int) = decide (ns = ms) := by
    intro ns
    induction ns with
    | nil => intro ms; cases ms <;> simp [PyData.eqvAll]
    | cons n ns ih => intro ms; cases ms with
      | nil => simp [PyData.eqvAll]
      | cons m ms =>
        rw [List.map_cons, List.map_cons, PyData.eqvAll, ih]
        by_cases h : n = m
        · simp [PyData.eqv, h]
        · simp [PyData.eqv, h]
  rw [PyData.eqv]
  exact h ns ms
theorem eqTs {p q : Addr} {ns ms : List Int} {b : Bool} (h1 : SqT K H p (ns.map V.int)) (h2 : SqT K H q (ms.map V.int)) (hb : b = decide (ns = ms)) (h : Q (.bl b) H) : rEqD K (.ref p) (.ref q) H Q :=
  ⟨_, _, .tup h1 (dp_ints ns), .tup h2 (dp_ints ms), shaped_intsT ns, shaped_intsT ms, by rw [eqB, ← hb]; exact h⟩
theorem neTs {p q : Addr} {ns ms : List Int} {b : Bool} (h1 : SqT K H p (ns.map V.int)) (h2 : SqT K H q (ms.map V.int)) (hb : b = decide (ns = ms)) (h : Q (.bl (!b)) H) : rNeD K (.ref p) (.ref q) H Q :=
  ⟨_, _, .tup h1 (dp_ints ns), .tup h2 (dp_ints ms), shaped_intsT ns, shaped_intsT ms, by rw [eqB, ← hb]; exact h⟩
variable {p q : Addr} {a b c d a' b' c' d' : Int}
theorem eq2 (h1 : SqT K H p [.int a, .int b]) (h2 : SqT K H q [.int a', .int b']) (h : Q (.bl (decide (a = a' ∧ b = b'))) H) : rEqD K (.ref p) (.ref q) H Q :=
  eqTs (ns := [a, b]) (ms := [a', b']) h1 h2 (by simp) h
theorem ne2 (h1 : SqT K H p [.int a, .int b]) (h2 : SqT K H q [.int a', .int b']) (h : Q (.bl (!decide (a = a' ∧ b = b'))) H) : rNeD K (.ref p) (.ref q) H Q :=
  neTs (ns := [a, b]) (ms := [a', b']) h1 h2 (by simp) h
theorem eq3 (h1 : SqT K H p [.int a, .int b, .int c]) (h2 : SqT K H q [.int a', .int b', .int c']) (h : Q (.bl (decide (a = a' ∧ b = b' ∧ c = c'))) H) : rEqD K (.ref p) (.ref q) H Q :=
  eqTs (ns := [a, b, c]) (ms := [a', b', c']) h1 h2 (by simp) h
theorem ne3 (h1 : SqT K H p [.int a, .int b, .int c]) (h2 : SqT K H q [.int a', .int b', .int c']) (h : Q (.bl (!decide (a = a' ∧ b = b' ∧ c = c'))) H) : rNeD K (.ref p) (.ref q) H Q :=
  neTs (ns := [a, b, c]) (ms := [a', b', c']) h1 h2 (by simp) h
theorem eq4 (h1 : SqT K H p [.int a, .int b, .int c, .int d]) (h2 : SqT K H q [.int a', .int b', .int c', .int d']) (h : Q (.bl (decide (a = a' ∧ b = b' ∧ c = c' ∧ d = d'))) H) : rEqD K (.ref p) (.ref q) H Q :=
  eqTs (ns := [a, b, c, d]) (ms := [a', b', c', d']) h1 h2 (by simp) h
theorem ne4 (h1 : SqT K H p [.int a, .int b, .int c, .int d]) (h2 : SqT K H q [.int a', .int b', .int c', .int d']) (h : Q (.bl (!decide (a = a' ∧ b = b' ∧ c = c' ∧ d = d'))) H) : rNeD K (.ref p) (.ref q) H Q :=
  neTs (ns := [a, b, c, d]) (ms := [a', b', c', d']) h1 h2 (by simp) h
/-! loops over ranges, comprehensions -/
def ForJ (J : It) (g : TG) (tb : TS) (D : Ends) (σ : L2.St) (H1 : Hp) : Prop := tFor (fun _ Hs R => R J Hs) g tb D σ H1
theorem forE {wi : TI} {g : TG} {tb : TS} {D : Ends} (h : wi σ H fun J H1 => ForJ J g tb D σ H1) : tFor wi g tb D σ H := h
def RgOne (vs : List V) (P : Int → Prop) : Prop := ∃ j : Int, vs = [.int j] ∧ -(2 ^ 62) ≤ j ∧ j < 2 ^ 62 ∧ P j
def RgTwo (vs : List V) (P : Int → Int → Prop) : Prop := ∃ i j : Int, vs = [.int i, .int j] ∧ (-(2 ^ 62) ≤ i ∧ i < 2 ^ 62 ∧ -(2 ^ 62) ≤ j ∧ j < 2 ^ 62) ∧ P i j
theorem rng1 {ta : TA} {R : It → Hp → Prop} (h : ta σ H fun vs H1 => RgOne vs fun j => R (Itr 0 j.toNat) H1) : iRng1 ta σ H R := h
theorem rng2 {ta : TA} {R : It → Hp → Prop} (h : ta σ H fun vs H1 => RgTwo vs fun i j => R (Itr i (j - i).toNat) H1) : iRng2 ta σ H R := h
theorem rg1 {P : Int → Prop} {j : Int} (h1 : -(2 ^ 62) ≤ j) (h2 : j < 2 ^ 62) (h : P j) : RgOne [.int j] P := ⟨j, rfl, h1, h2, h⟩
theorem rg2 {P : Int → Int → Prop} {i j : Int} (h1 : -(2 ^ 62) ≤ i) (h2 : i < 2 ^ 62) (h3 : -(2 ^ 62) ≤ j) (h4 : j < 2 ^ 62) (h : P i j) : RgTwo [.int i, .int j] P := ⟨i, j, rfl, ⟨h1, h2, h3, h4⟩, h⟩
theorem forN {lo : Int} {n : Nat} {g : TG} {tb : TS} {D : Ends} (Pv : Nat → L2.St → Hp → Prop) (h0 : Pv 0 σ H)
    (hs : ∀ i σ H, i < n → Pv i σ H → g (.int (lo + i)) σ H fun σ2 H2 => tb (Ends.mk (Pv (i + 1)) D.rt D.nx (Pv (i + 1))) σ2 H2) (hd : ∀ σ H, Pv n σ H → D.nx σ H) : ForJ (Itr lo n) g tb D σ H := for_range Pv h0 hs hd
def RefOne (v : V) (P : Addr → Prop) : Prop := ∃ a, v = .ref a ∧ P a
theorem itup {tl : TE} {R : It → Hp → Prop} (h : tl σ H fun x H1 => ∃ a, x = .ref a ∧ (∃ xs, SqT K H1 a xs) ∧ R (Itt K a) H1) : iTup K tl σ H R := h
theorem ilst {tl : TE} {R : It → Hp → Prop} (h : tl σ H fun x H1 => ∃ a, x = .ref a ∧ (∃ xs, SqL K H1 a xs) ∧ R (Itl K a) H1) : iList K tl σ H R := h
theorem refs {p : Addr} {xs : List V} {S : Addr → List V → Prop} {R : Addr → Prop} (h1 : S p xs) (h : R p) : ∃ a, V.ref p = .ref a ∧ (∃ ys, S a ys) ∧ R a := ⟨p, rfl, ⟨xs, h1⟩, h⟩
def LcJ (J : It) (g : TG) (tt : TT) (te : TE) (vs : List Nat) (σ : L2.St) (H1 : Hp) (Q : VK) : Prop := tLc (fun _ Hs R => R J Hs) g tt te vs σ H1 Q
theorem lcE {wi : TI} {g : TG} {tt : TT} {vs : List Nat} (h : wi σ H fun J H1 => LcJ J g tt te vs σ H1 Q) : tLc wi g tt te vs σ H Q := h
/-- [int for k in range(n)], each of them by c draws -/
theorem lcI {p a : Addr} {N c n : Nat} {lo : Int} {g : TG} {vs : List Nat} (P : Int → Prop) (hn : n ≤ 900) (d : Dw H p a N)
    (hs : ∀ i H' (Q' : VK), i < n → Dw H' p a (N + c * i) → Kp p H H' → (∀ x H4, P x → Dw H4 p a (N + c * i + c) → Kp p H' H4 → Q' (.int x) H4) → g (.int (lo + i)) (wipe σ vs) H' fun σ2 H2 => wipe σ2 vs = wipe σ vs ∧ te σ2 H2 Q')
    (hq : ∀ H' D (xs : List Int), H' D = some (.lst (xs.map V.int)) → xs.length = n → (∀ x ∈ xs, P x) → Dw H' p a (N + c * n) → Kp p H H' → H D = none → D ≠ p → Q (.ref D) H') : LcJ (Itr lo n) g tYes te vs σ H Q := by
  intro D nD
  have Dp := (d.ne nD).1
  have Da := (d.ne nD).2
  refine lc_range (lo := lo) (n := n) (fun i H' => ∃ xs : List Int, H' D = some (.lst (xs.map V.int)) ∧ xs.length = i ∧ (∀ x ∈ xs, P x) ∧ Dw H' p a (N + c * i) ∧ Kp p H H')
    ⟨[], upd_same, rfl, (fun x h => nomatch h), (d.new nD).mono (by omega), same_kp (same_upd nD)⟩ (fun i H5 hi ⟨xs, h1, h2, h3, h4, h5⟩ => ?_) (fun H5 ⟨xs, h1, h2, h3, h4, h5⟩ => hq H5 D xs h1 h2 h3 h4 h5 nD Dp)
  refine hs i H5 _ hi h4 h5 (fun x H4 px d4 k4 => ⟨_, k4 _ _ Dp h1, ?_, xs ++ [x], ?_, ?_, ?_, ?_, ?_⟩)
  · rw [List.length_map]
    exact small1000 (by omega)
  · rw [upd_same, List.map_append]
    rfl
  · rw [List.length_append, h2]
    rfl
  · intro z hz
    rcases List.mem_append.mp hz with hz | hz
    · exact h3 z hz
    · rw [List.mem_singleton.mp hz]
      exact px
  · have e : N + c * (i + 1) = N + c * i + c := by rw [Nat.mul_add, Nat.mul_one, Nat.add_assoc]
    rw [e]
    exact d4.mut Dp Da
  · intro b o hb e
    have e2 := k4 _ _ hb (h5 _ _ hb e)
    rw [upd_ne (ne_of_none e nD)]
    exact e2
/-- [f(x) for x in a tuple (a list) of ints] -/
theorem lcT {a : Addr} {ns : List Int} {g : TG} {vs : List Nat} (f : Int → Int) (hl : ns.length ≤ 900) (hT : SqT K H a (ns.map V.int))
    (hs : ∀ n H' (Q' : VK), n ∈ ns → Same H H' → Q' (.int (f n)) H' → g (.int n) (wipe σ vs) H' fun σ2 H2 => wipe σ2 vs = wipe σ vs ∧ te σ2 H2 Q')
    (hq : ∀ H' D, H' D = some (.lst ((ns.map f).map V.int)) → Same H H' → H D = none → Q (.ref D) H') : LcJ (Itt K a) g tYes te vs σ H Q := by
  intro D nD
  refine lc_tup (K := K) (a := a) (xs := ns.map V.int) (fun i H' => H' D = some (.lst (((ns.take i).map f).map V.int)) ∧ Same H H') ⟨upd_same, same_upd nD⟩ (fun i H' _ h => same_seqT h.2 hT) (fun i x H5 hx ⟨h1, h5⟩ => ?_) (fun H5 ⟨h1, h5⟩ => ?_)
  · rw [List.getElem?_map] at hx
    cases hn : ns[i]? with
    | none =>
      rw [hn] at hx
      cases hx
    | some n =>
      rw [hn] at hx
      cases hx
      refine hs n H5 _ (List.mem_of_getElem? hn) h5 ⟨_, h1, ?_, ?_, ?_⟩
      · rw [List.length_map, List.length_map, List.length_take]
        exact small1000 (by omega)
      · rw [upd_same, List.take_add_one, hn, List.map_append, List.map_append]
        rfl
      · exact same_mut h5 nD
  · rw [List.length_map, List.take_length] at h1
    exact hq H5 D h1 h5 nD
end
theorem isEq {α : Sort _} {a b : α} (h : a = b) : a = b := h
theorem bm {σ : L2.St} {H : Hp} {Q : VK} {T : String} {r : V → List V → Hp → VK → Prop} {to : TE} {t : TA} {K : PySem.W.Frag} (h : to σ H fun x H1 => tyV K T x H1 ∧ t σ H1 fun xs H2 => r x xs H2 Q) : tBM K T r to t σ H Q := h
theorem bmT {H : Hp} {K : PySem.W.Frag} {p : Addr} {xs : List V} {B : Prop} (h1 : H p = some (.lst xs)) (h2 : B) : tyV K "list" (.ref p) H ∧ B := ⟨.inl ⟨rfl, _, SqL.of h1⟩, h2⟩
theorem app {H : Hp} {Q : VK} {l : Addr} {xs : List V} {y : V} (h : H l = some (.lst xs)) (z : xs.length ≤ 1000000) (q : ∀ H', H' = upd H l (.lst (xs ++ [y])) → H' l = some (.lst (xs ++ [y])) → Q .non H') : rAppend (.ref l) [y] H Q :=
  ⟨l, xs, y, rfl, rfl, h, Nat.lt_of_le_of_lt z (by decide), q _ rfl upd_same⟩
theorem dput {σ : L2.St} {H : Hp} {td ty tv : TE} {nx : L2.St → Hp → Prop} {rt : VK} {bk ct : L2.St → Hp → Prop} (h : tv σ H fun v H1 => td σ H1 fun x H2 => ty σ H2 fun y H3 => ∃ a H4, x = .ref a ∧ DPut H3 a y v H4 ∧ nx σ H4) : sDPut td ty tv (Ends.mk nx rt bk ct) σ H := h
theorem dget {σ : L2.St} {H : Hp} {Q : VK} {td ty : TE} (h : td σ H fun x H1 => ty σ H1 fun y H2 => ∃ a v, x = .ref a ∧ DGet H2 a y (some v) ∧ Q v H2) : tDGet td ty σ H Q := h
theorem din {σ : L2.St} {H : Hp} {Q : VK} {td ty : TE} (h : ty σ H fun y H1 => td σ H1 fun x H2 => ∃ a o, x = .ref a ∧ DGet H2 a y o ∧ Q (.bl o.isSome) H2) : tDIn ty td σ H Q := h
theorem dget2 {σ : L2.St} {H : Hp} {Q : VK} {td ty tx : TE} (h : td σ H fun x H1 => ∃ a, x = .ref a ∧ IsD H1 a ∧ ty σ H1 fun y H2 => tx σ H2 fun z H3 => ∃ o, DGet H3 a y o ∧ Q (o.getD z) H3) : tDGet2 td ty tx σ H Q := h
/-! slots behind many stores -/
def LenOk (n : Nat) (σ : L2.St) : Prop := n < σ.length
theorem lenS {n m : Nat} {σ : L2.St} {x : Option V} (h : LenOk n σ) : LenOk n (σ.set m x) := by
  unfold LenOk at *
  rw [List.length_set]
  exact h
theorem lenB {n : Nat} {σ : L2.St} (h : Nat.ble (n + 1) σ.length = true) : LenOk n σ := Nat.le_of_ble_eq_true h
theorem gsE {n : Nat} {σ : L2.St} {x r : Option V} (h : LenOk n σ) (e : some x = some r) : (σ.set n x)[n]? = some r := by
  rw [List.getElem?_set_self h]
  exact e
theorem gsN {n m : Nat} {σ : L2.St} {x : Option V} {r : Option (Option V)} (h : Nat.beq m n = false) (e : σ[n]? = r) : (σ.set m x)[n]? = r := by
  rw [List.getElem?_set_ne (fun z => by rw [z, Nat.beq_refl] at h; cases h)]
  exact e
theorem isLeI {a b : Int} (h : a ≤ b) : a ≤ b := h
theorem cdiv {i j : Int} (h : decide (0 < j ∧ j < 1073741824) = true) : CDiv i j := of_decide_eq_true (p := 0 < j ∧ j < 1073741824) h
theorem cpow {i j : Int} (h : decide (0 ≤ j ∧ j ≤ 1000000 ∧ i.natAbs < 2 ^ 64) = true) : CPow i j := of_decide_eq_true (p := 0 ≤ j ∧ j ≤ 1000000 ∧ i.natAbs < 2 ^ 64) h
theorem gBd {n : Nat} {x : Int} (h : Bd n x) : Bd n x := h
theorem gSqT {K : PySem.W.Frag} {H : Hp} {a : Addr} {xs : List V} (h : SqT K H a xs) : SqT K H a xs := h
theorem notT {A B : Prop} (h : B) : if (!true) = true then A else B := h
theorem notF {A B : Prop} (h : A) : if (!false) = true then A else B := h
theorem isNe {α : Sort _} {a b : α} (h : a ≠ b) : a ≠ b := h
theorem cdivX {n : Nat} {i j : Int} (h1 : j ≠ 0) (h2 : Bd n j) (l : Nat.ble n 9000 = true) : CDivX i j := ⟨h1, Nat.lt_of_lt_of_le h2 (Nat.pow_le_pow_right (by decide) (Nat.le_of_ble_eq_true l))⟩
theorem isLe {a b : Nat} (h : a ≤ b) : a ≤ b := h
theorem isLtI {a b : Int} (h : a < b) : a < b := h
theorem isLt {a b : Nat} (h : a < b) : a < b := h
end R
/-! unpacking of a list -/
theorem pgU {X : Cx} (K : PySem.W.Frag) (n : Nat) {es : List Expr} {k : Nat} {pos : Pos} {t : TGs} (hc : X.calm = true) (h : PGs X es t) (hn : (assignEach es X.env).length = n := by rfl) (hst : (assignEach es X.env).findIdx? (·.1) = none := by rfl) (hK : X.K = K := by rfl) : PG X (.Tuple es k pos) (gUnl K n t) := by
  subst hK
  exact pg_unl hc h hn hst
theorem r_gunl {K : PySem.W.Frag} {σ : L2.St} {H : Hp} {n : Nat} {t : TGs} {a : Addr} {xs : List V} {Q : L2.St → Hp → Prop} (h1 : SqL K H a xs) (h2 : xs.length = n) (h : t xs σ H Q) : gUnl K n t (.ref a) σ H Q := ⟨a, xs, rfl, h1, h2, h⟩

/-! ### lists of tuples of ints -/
def tD (t : List Int) : PyData := .tuple (t.map PyData.int)
inductive Tps (K : PySem.W.Frag) (H : Hp) : List V → List (List Int) → Prop where
  | nil : Tps K H [] []
  | cons {a : Addr} {t : List Int} {vs : List V} {ts : List (List Int)} : SqT K H a (t.map V.int) → Tps K H vs ts → Tps K H (.ref a :: vs) (t :: ts)
theorem Tps.kt {K : PySem.W.Frag} {H H' : Hp} (s : KT K H H') : ∀ {vs : List V} {ts : List (List Int)}, Tps K H vs ts → Tps K H' vs ts
  | _, _, .nil => .nil
  | _, _, .cons h t => .cons (s _ _ h) (t.kt s)
theorem Tps.same {K : PySem.W.Frag} {H H' : Hp} {vs : List V} {ts : List (List Int)} (h : Tps K H vs ts) (s : Same H H') : Tps K H' vs ts := h.kt (same_kt s)
theorem Tps.len {K : PySem.W.Frag} {H : Hp} : ∀ {vs : List V} {ts : List (List Int)}, Tps K H vs ts → vs.length = ts.length
  | _, _, .nil => rfl
  | _, _, .cons _ t => by rw [List.length_cons, List.length_cons, t.len]
theorem Tps.app {K : PySem.W.Frag} {H : Hp} : ∀ {vs ws : List V} {ts us : List (List Int)}, Tps K H vs ts → Tps K H ws us → Tps K H (vs ++ ws) (ts ++ us)
  | _, _, _, _, .nil, h => h
  | _, _, _, _, .cons a t, h => .cons a (t.app h)
theorem Tps.snoc {K : PySem.W.Frag} {H : Hp} {vs : List V} {ts : List (List Int)} {a : Addr} {t : List Int} (h : Tps K H vs ts) (s : SqT K H a (t.map V.int)) : Tps K H (vs ++ [.ref a]) (ts ++ [t]) := h.app (.cons s .nil)
theorem Tps.at {K : PySem.W.Frag} {H : Hp} : ∀ {vs : List V} {ts : List (List Int)} {i : Nat} {x : V}, Tps K H vs ts → vs[i]? = some x → ∃ a t, x = .ref a ∧ ts[i]? = some t ∧ SqT K H a (t.map V.int)
  | _, _, _, _, .nil, h => by cases h
  | _, _, 0, _, .cons s t, h => by
    cases h
    exact ⟨_, _, rfl, rfl, s⟩
  | _, _, i + 1, _, .cons s t, h => t.at (i := i) h
theorem Tps.dp {K : PySem.W.Frag} {H : Hp} : ∀ {vs : List V} {ts : List (List Int)}, Tps K H vs ts → DpAll K H vs (ts.map tD)
  | _, _, .nil => .nil
  | _, _, .cons h t => .cons (.tup h (dp_ints _)) t.dp
theorem lay_tups : ∀ ts : List (List Int), PyData.canLayAll0 (ts.map tD) = true
  | [] => rfl
  | t :: ts => by
    rw [List.map_cons, PyData.canLayAll0, lay_tups ts]
    unfold tD
    rw [PyData.canLay0, lay_ints]
    rfl
theorem depth_tups : ∀ ts : List (List Int), PyData.depthAll (ts.map tD) ≤ 1
  | [] => by rw [List.map_nil, PyData.depthAll]; decide
  | t :: ts => by
    rw [List.map_cons, PyData.depthAll]
    unfold tD
    rw [PyData.depth, depth_ints]
    exact Nat.max_le.mpr ⟨by decide, depth_tups ts⟩
theorem shaped_tups (ts : List (List Int)) : SeqAt.shaped (.list (ts.map tD)) = true := by
  show (PyData.canLay0 (.list (ts.map tD)) && decide (PyData.depth (.list (ts.map tD)) ≤ 64)) = true
  rw [Bool.and_eq_true]
  refine ⟨by rw [PyData.canLay0]; exact lay_tups ts, decide_eq_true ?_⟩
  rw [PyData.depth]
  have := depth_tups ts
  omega
theorem shaped_tupsT (ts : List (List Int)) : SeqAt.shaped (.tuple (ts.map tD)) = true := by
  show (PyData.canLay0 (.tuple (ts.map tD)) && decide (PyData.depth (.tuple (ts.map tD)) ≤ 64)) = true
  rw [Bool.and_eq_true]
  refine ⟨by rw [PyData.canLay0]; exact lay_tups ts, decide_eq_true ?_⟩
  rw [PyData.depth]
  have := depth_tups ts
  omega
theorem eqvAll_tups : ∀ ts us : List (List Int), PyData.eqvAll (ts.map tD) (us.map tD) = decide (ts = us)
  | [], [] => by simp [PyData.eqvAll]
  | [], _ :: _ => by simp [PyData.eqvAll]
  | _ :: _, [] => by simp [PyData.eqvAll]
  | t :: ts, u :: us => by
    rw [List.map_cons, List.map_cons, PyData.eqvAll, eqvAll_tups ts us]
    unfold tD
    rw [R.eqB]
    by_cases h : t = u <;> simp [h]
theorem any_tups (t : List Int) : ∀ ts : List (List Int), (ts.map tD).any (fun z => PyData.eqv z (tD t)) = decide (t ∈ ts)
  | [] => by simp
  | u :: ts => by
    rw [List.map_cons, List.any_cons, any_tups t ts]
    have e : PyData.eqv (tD u) (tD t) = decide (u = t) := R.eqB
    rw [e]
    by_cases h : u = t
    · subst h
      simp
    · have h2 : ¬ t = u := fun z => h z.symm
      by_cases h3 : t ∈ ts <;> simp [h, h2, h3]
namespace R
theorem eqTps {K : PySem.W.Frag} {H : Hp} {Q : VK} {p q : Addr} {vs ws : List V} {ts us : List (List Int)} (h1 : SqL K H p vs) (t1 : Tps K H vs ts) (h2 : SqL K H q ws) (t2 : Tps K H ws us) (h : Q (.bl (decide (ts = us))) H) : rEqD K (.ref p) (.ref q) H Q := by
  refine ⟨_, _, .lst h1 t1.dp, .lst h2 t2.dp, shaped_tups _, shaped_tups _, ?_⟩
  rw [PyData.eqv, eqvAll_tups]
  exact h
theorem neTps {K : PySem.W.Frag} {H : Hp} {Q : VK} {p q : Addr} {vs ws : List V} {ts us : List (List Int)} (h1 : SqL K H p vs) (t1 : Tps K H vs ts) (h2 : SqL K H q ws) (t2 : Tps K H ws us) (h : Q (.bl (!decide (ts = us))) H) : rNeD K (.ref p) (.ref q) H Q := by
  refine ⟨_, _, .lst h1 t1.dp, .lst h2 t2.dp, shaped_tups _, shaped_tups _, ?_⟩
  rw [PyData.eqv, eqvAll_tups]
  exact h
theorem notInT {K : PySem.W.Frag} {H : Hp} {Q : VK} {p q : Addr} {vs : List V} {t : List Int} {ts : List (List Int)} (h1 : SqT K H p (t.map V.int)) (h2 : SqL K H q vs) (t2 : Tps K H vs ts) (h : Q (.bl (!decide (t ∈ ts))) H) : rNotInD K (.ref p) (.ref q) H Q := by
  refine ⟨_, _, .tup h1 (dp_ints _), .lst h2 t2.dp, shaped_intsT _, shaped_tups _, ?_⟩
  have e := any_tups t ts
  unfold tD at e
  rw [show (ts.map tD) = ts.map fun t => .tuple (t.map PyData.int) from rfl, e]
  exact h
theorem inT {K : PySem.W.Frag} {H : Hp} {Q : VK} {p q : Addr} {vs : List V} {t : List Int} {ts : List (List Int)} (h1 : SqT K H p (t.map V.int)) (h2 : SqL K H q vs) (t2 : Tps K H vs ts) (h : Q (.bl (decide (t ∈ ts))) H) : rInD K (.ref p) (.ref q) H Q := by
  refine ⟨_, _, .tup h1 (dp_ints _), .lst h2 t2.dp, shaped_intsT _, shaped_tups _, ?_⟩
  have e := any_tups t ts
  unfold tD at e
  rw [show (ts.map tD) = ts.map fun t => .tuple (t.map PyData.int) from rfl, e]
  exact h
end R
theorem room65 {k : Nat} {A : Around} (r : Room k A) : A.units + 65 < cLine := by
  have := r.un
  omega
theorem notInDQ {X : Cx} (K : PySem.W.Frag) (hu : X.A.units + 65 < cLine) (h : X.K = K := by rfl) : OpR X (compareOp .NotIn) (rNotInD K) := by
  subst h
  exact op_notInD hu
theorem inDQ {X : Cx} (K : PySem.W.Frag) (hu : X.A.units + 65 < cLine) (h : X.K = K := by rfl) : OpR X (compareOp .In) (rInD K) := by
  subst h
  exact op_inD hu

/-! ### [f x for x in .. if p x] -/
def rgI (lo : Int) (n : Nat) : List Int := (List.range n).map fun (t : Nat) => lo + (t : Int)
theorem rgI_succ (lo : Int) (n : Nat) : rgI lo (n + 1) = rgI lo n ++ [lo + (n : Int)] := by
  unfold rgI
  rw [List.range_succ, List.map_append]
  rfl
theorem rgI_len (lo : Int) (n : Nat) : (rgI lo n).length = n := by
  unfold rgI
  rw [List.length_map, List.length_range]
theorem mem_rgI {lo x : Int} {n : Nat} : x ∈ rgI lo n ↔ lo ≤ x ∧ x < lo + (n : Int) := by
  unfold rgI
  rw [List.mem_map]
  constructor
  · rintro ⟨t, ht, rfl⟩
    have := List.mem_range.mp ht
    omega
  · rintro ⟨h1, h2⟩
    exact ⟨(x - lo).toNat, List.mem_range.mpr (by omega), by omega⟩
theorem rgI_lt (lo : Int) (n : Nat) : (rgI lo n).Pairwise (· < ·) := by
  unfold rgI
  exact List.pairwise_map.mpr ((List.pairwise_lt_range (n := n)).imp fun h => by omega)
theorem lt_ext : ∀ {l m : List Int}, l.Pairwise (· < ·) → m.Pairwise (· < ·) → (∀ x, x ∈ l ↔ x ∈ m) → l = m
  | [], [], _, _, _ => rfl
  | [], b :: m, _, _, h => absurd ((h b).mpr List.mem_cons_self) (by simp)
  | a :: l, [], _, _, h => absurd ((h a).mp List.mem_cons_self) (by simp)
  | a :: l, b :: m, h1, h2, h => by
    obtain ⟨a1, a2⟩ := List.pairwise_cons.mp h1
    obtain ⟨b1, b2⟩ := List.pairwise_cons.mp h2
    have e : a = b := by
      rcases List.mem_cons.mp ((h a).mp List.mem_cons_self) with k | k
      · exact k
      · rcases List.mem_cons.mp ((h b).mpr List.mem_cons_self) with k2 | k2
        · exact k2.symm
        · have := a1 b k2
          have := b1 a k
          omega
    subst e
    rw [lt_ext a2 b2 fun x => ?_]
    constructor
    · intro hx
      rcases List.mem_cons.mp ((h x).mp (List.mem_cons_of_mem _ hx)) with k | k
      · have := a1 x hx
        omega
      · exact k
    · intro hx
      rcases List.mem_cons.mp ((h x).mpr (List.mem_cons_of_mem _ hx)) with k | k
      · have := b1 x hx
        omega
      · exact k
theorem le_nodup_lt {l : List Int} (h : l.Pairwise (· ≤ ·)) (n : l.Nodup) : l.Pairwise (· < ·) := by
  refine List.Pairwise.imp ?_ (h.and n)
  intro a b ⟨x, y⟩
  have : a ≠ b := y
  omega
namespace R
section
variable {K : PySem.W.Frag} {σ : L2.St} {H : Hp} {Q : VK} {g : TG} {tt : TT} {te : TE} {vs : List Nat}
theorem lcFR {lo : Int} {n : Nat} (p : Int → Bool) (f : Int → Int) (hn : n ≤ 100000)
    (hs : ∀ i H' (C : V → Hp → Prop) (E : Hp → Prop), i < n → Same H H' → (p (lo + i) = true → C (.int (f (lo + i))) H') → (p (lo + i) = false → E H') → g (.int (lo + i)) (wipe σ vs) H' fun σ2 H2 => wipe σ2 vs = wipe σ vs ∧ tt σ2 H2 fun k H3 => if k = true then te σ2 H3 C else E H3)
    (hq : ∀ H' D, H' D = some (.lst ((((rgI lo n).filter p).map f).map V.int)) → Same H H' → H D = none → Q (.ref D) H') : LcJ (Itr lo n) g tt te vs σ H Q := by
  intro D nD
  refine lc_range (lo := lo) (n := n) (fun i H' => H' D = some (.lst ((((rgI lo i).filter p).map f).map V.int)) ∧ Same H H') ⟨upd_same, same_upd nD⟩ (fun i H5 hi ⟨h1, h5⟩ => ?_) (fun H5 ⟨h1, h5⟩ => hq H5 D h1 h5 nD)
  refine hs i H5 _ _ hi h5 (fun e => ⟨_, h1, ?_, ?_, same_mut h5 nD⟩) (fun e => ⟨?_, h5⟩)
  · rw [List.length_map, List.length_map]
    have := List.length_filter_le p (rgI lo i)
    rw [rgI_len] at this
    exact Nat.lt_of_le_of_lt (Nat.le_trans this (by omega : i ≤ 100000)) (by decide)
  · rw [upd_same, rgI_succ, List.filter_append, List.filter_cons_of_pos (by exact e), List.map_append, List.map_append]
    rfl
  · rw [rgI_succ, List.filter_append, List.filter_cons_of_neg (by rw [e]; decide), List.filter_nil, List.append_nil]
    exact h1
theorem lcFL {a : Addr} {ns : List Int} (p : Int → Bool) (f : Int → Int) (hl : ns.length ≤ 100000) (hT : SqL K H a (ns.map V.int))
    (hs : ∀ n H' (C : V → Hp → Prop) (E : Hp → Prop), n ∈ ns → Same H H' → (p n = true → C (.int (f n)) H') → (p n = false → E H') → g (.int n) (wipe σ vs) H' fun σ2 H2 => wipe σ2 vs = wipe σ vs ∧ tt σ2 H2 fun k H3 => if k = true then te σ2 H3 C else E H3)
    (hq : ∀ H' D, H' D = some (.lst (((ns.filter p).map f).map V.int)) → Same H H' → H D = none → Q (.ref D) H') : LcJ (Itl K a) g tt te vs σ H Q := by
  intro D nD
  refine lc_list (K := K) (a := a) (xs := ns.map V.int) (fun i H' => H' D = some (.lst ((((ns.take i).filter p).map f).map V.int)) ∧ Same H H') ⟨upd_same, same_upd nD⟩ (fun i H' _ h => h.2.seq hT) (fun i x H5 hx ⟨h1, h5⟩ => ?_) (fun H5 ⟨h1, h5⟩ => ?_)
  · rw [List.getElem?_map] at hx
    cases hn : ns[i]? with
    | none =>
      rw [hn] at hx
      cases hx
    | some n =>
      rw [hn] at hx
      cases hx
      refine hs n H5 _ _ (List.mem_of_getElem? hn) h5 (fun e => ⟨_, h1, ?_, ?_, same_mut h5 nD⟩) (fun e => ⟨?_, h5⟩)
      · rw [List.length_map, List.length_map]
        have := List.length_filter_le p (ns.take i)
        rw [List.length_take] at this
        exact Nat.lt_of_le_of_lt (Nat.le_trans this (by omega : min i ns.length ≤ 100000)) (by decide)
      · rw [upd_same, List.take_add_one, hn, Option.toList_some, List.filter_append, List.filter_cons_of_pos (by exact e), List.map_append, List.map_append]
        rfl
      · rw [List.take_add_one, hn, Option.toList_some, List.filter_append, List.filter_cons_of_neg (by rw [e]; decide), List.filter_nil, List.append_nil]
        exact h1
  · rw [List.length_map, List.take_length] at h1
    exact hq H5 D h1 h5 nD
end
theorem yes {σ : L2.St} {H : Hp} {A B : Hp → Prop} (h : A H) : tYes σ H fun k H3 => if k = true then A H3 else B H3 := by
  unfold tYes
  show if true = true then A H else B H
  rw [if_pos rfl]
  exact h
theorem srt {K : PySem.W.Frag} {H : Hp} {Q : VK} {a : Addr} {ns : List Int} (h : SqL K H a (ns.map V.int)) (q : ∀ (ns' : List Int) H' p, ns'.Perm ns → ns'.Pairwise (· ≤ ·) → Same H H' → H p = none → H' p = some (.lst (ns'.map V.int)) → Q (.ref p) H') : rSortedI K [.ref a] H Q :=
  ⟨a, ns, rfl, h, fun ns' p pm s n => q ns' _ p pm s (same_upd n) n upd_same⟩
theorem eqInts {K : PySem.W.Frag} {H : Hp} {Q : VK} {p q : Addr} {ns ms : List Int} (h1 : SqL K H p (ns.map V.int)) (h2 : SqL K H q (ms.map V.int)) (h : Q (.bl (decide (ns = ms))) H) : rEqD K (.ref p) (.ref q) H Q := by
  refine ⟨_, _, .lst h1 (dp_ints ns), .lst h2 (dp_ints ms), shaped_ints ns, shaped_ints ms, ?_⟩
  have e : PyData.eqv (.list (ns.map PyData.int)) (.list (ms.map PyData.int)) = decide (ns = ms) := by
    have h := eqB (ns := ns) (ms := ms)
    rw [PyData.eqv] at h
    rw [PyData.eqv]
    exact h
  rw [e]
  exact h
theorem neInts {K : PySem.W.Frag} {H : Hp} {Q : VK} {p q : Addr} {ns ms : List Int} (h1 : SqL K H p (ns.map V.int)) (h2 : SqL K H q (ms.map V.int)) (h : Q (.bl (!decide (ns = ms))) H) : rNeD K (.ref p) (.ref q) H Q := by
  refine ⟨_, _, .lst h1 (dp_ints ns), .lst h2 (dp_ints ms), shaped_ints ns, shaped_ints ms, ?_⟩
  have e : PyData.eqv (.list (ns.map PyData.int)) (.list (ms.map PyData.int)) = decide (ns = ms) := by
    have h := eqB (ns := ns) (ms := ms)
    rw [PyData.eqv] at h
    rw [PyData.eqv]
    exact h
  rw [e]
  exact h
end R
theorem srtQ {X : Cx} (K : PySem.W.Frag) (h : X.K = K := by rfl) : CallR X (.builtin "sorted") (rSortedI K) := by
  subst h
  exact cr_sortedI

/-! ### lists of pairs of ints -/
inductive Pd (H : Hp) : List V → List (Int × Int) → Prop where
  | nil : Pd H [] []
  | cons {a : Addr} {p : Int × Int} {vs : List V} {ps : List (Int × Int)} : H a = some (.tup [.int p.1, .int p.2]) → Pd H vs ps → Pd H (.ref a :: vs) (p :: ps)
def pL (p : Int × Int) : List Int := [p.1, p.2]
theorem pL_inj {p q : Int × Int} (h : pL p = pL q) : p = q := by
  unfold pL at h
  injection h with h1 h2
  injection h2 with h2 _
  exact Prod.ext h1 h2
theorem Pd.mono {H H' : Hp} (s : ∀ b xs, H b = some (.tup xs) → H' b = some (.tup xs)) : ∀ {vs : List V} {ps : List (Int × Int)}, Pd H vs ps → Pd H' vs ps
  | _, _, .nil => .nil
  | _, _, .cons h t => .cons (s _ _ h) (t.mono s)
theorem Pd.same {H H' : Hp} {vs : List V} {ps : List (Int × Int)} (h : Pd H vs ps) (s : Same H H') : Pd H' vs ps := h.mono fun _ _ e => s _ _ e
theorem Pd.len {H : Hp} : ∀ {vs : List V} {ps : List (Int × Int)}, Pd H vs ps → vs.length = ps.length
  | _, _, .nil => rfl
  | _, _, .cons _ t => by rw [List.length_cons, List.length_cons, t.len]
theorem Pd.snoc {H : Hp} {a : Addr} {p : Int × Int} (s : H a = some (.tup [.int p.1, .int p.2])) : ∀ {vs : List V} {ps : List (Int × Int)}, Pd H vs ps → Pd H (vs ++ [.ref a]) (ps ++ [p])
  | _, _, .nil => .cons s .nil
  | _, _, .cons h t => .cons h (t.snoc s)
theorem Pd.tps {K : PySem.W.Frag} {H : Hp} : ∀ {vs : List V} {ps : List (Int × Int)}, Pd H vs ps → Tps K H vs (ps.map pL)
  | _, _, .nil => .nil
  | _, _, .cons h t => .cons (SqT.of h) t.tps
theorem Pd.off {H : Hp} {D : Addr} {xs ys : List V} {vs : List V} {ps : List (Int × Int)} (h : Pd H vs ps) (hD : H D = some (.lst xs)) : Pd (upd H D (.lst ys)) vs ps := h.mono fun b zs e => by
  rw [upd_ne (ne_of e hD (by intro z; cases z))]
  exact e
theorem map_pL_eq {ps qs : List (Int × Int)} : ps.map pL = qs.map pL ↔ ps = qs := by
  constructor
  · intro h
    induction ps generalizing qs with
    | nil =>
      cases qs with
      | nil => rfl
      | cons q qs => cases h
    | cons p ps ih =>
      cases qs with
      | nil => cases h
      | cons q qs =>
        injection h with h1 h2
        rw [pL_inj h1, ih h2]
  · rintro rfl
    rfl
theorem mem_pL {p : Int × Int} {ps : List (Int × Int)} : pL p ∈ ps.map pL ↔ p ∈ ps := by
  rw [List.mem_map]
  constructor
  · rintro ⟨q, hq, e⟩
    rw [← pL_inj e]
    exact hq
  · intro h
    exact ⟨p, h, rfl⟩
/-- the order of pairs -/
def ltp (p q : Int × Int) : Prop := p.1 < q.1 ∨ (p.1 = q.1 ∧ p.2 < q.2)
theorem ltp_ext : ∀ {l m : List (Int × Int)}, l.Pairwise ltp → m.Pairwise ltp → (∀ x, x ∈ l ↔ x ∈ m) → l = m
  | [], [], _, _, _ => rfl
  | [], b :: m, _, _, h => absurd ((h b).mpr List.mem_cons_self) (by simp)
  | a :: l, [], _, _, h => absurd ((h a).mp List.mem_cons_self) (by simp)
  | a :: l, b :: m, h1, h2, h => by
    obtain ⟨a1, a2⟩ := List.pairwise_cons.mp h1
    obtain ⟨b1, b2⟩ := List.pairwise_cons.mp h2
    have e : a = b := by
      rcases List.mem_cons.mp ((h a).mp List.mem_cons_self) with k | k
      · exact k
      · rcases List.mem_cons.mp ((h b).mpr List.mem_cons_self) with k2 | k2
        · exact k2.symm
        · have x1 := a1 b k2
          have x2 := b1 a k
          unfold ltp at x1 x2
          omega
    subst e
    rw [ltp_ext a2 b2 fun x => ?_]
    constructor
    · intro hx
      rcases List.mem_cons.mp ((h x).mp (List.mem_cons_of_mem _ hx)) with k | k
      · have x1 := a1 x hx
        rw [k] at x1
        unfold ltp at x1
        omega
      · exact k
    · intro hx
      rcases List.mem_cons.mp ((h x).mpr (List.mem_cons_of_mem _ hx)) with k | k
      · have x1 := b1 x hx
        rw [k] at x1
        unfold ltp at x1
        omega
      · exact k
def kH (H : Hp) : V → Int × Int
  | .ref a => match H a with
    | some (.tup [.int x, .int y]) => (x, y)
    | _ => (0, 0)
  | _ => (0, 0)
theorem kH_at {H : Hp} {a : Addr} {x y : Int} (h : H a = some (.tup [.int x, .int y])) : kH H (.ref a) = (x, y) := by
  show (match H a with | some (.tup [.int x, .int y]) => (x, y) | _ => ((0 : Int), (0 : Int))) = (x, y)
  rw [h]
theorem Pd.keys {H : Hp} : ∀ {vs : List V} {ps : List (Int × Int)}, Pd H vs ps → vs.map (kH H) = ps
  | _, _, .nil => rfl
  | _, _, .cons h t => by rw [List.map_cons, kH_at h, t.keys]
theorem Pd.mem {H : Hp} : ∀ {vs : List V} {ps : List (Int × Int)}, Pd H vs ps → ∀ x ∈ vs, ∃ t, x = V.ref t ∧ H t = some (.tup [.int (kH H x).1, .int (kH H x).2])
  | _, _, .nil, x, h => by cases h
  | _, _, .cons h t, x, hx => by
    rcases List.mem_cons.mp hx with rfl | hx
    · exact ⟨_, rfl, by rw [kH_at h]; exact h⟩
    · exact t.mem x hx
theorem pd_of {H : Hp} : ∀ {vs : List V}, (∀ x ∈ vs, ∃ t, x = V.ref t ∧ H t = some (.tup [.int (kH H x).1, .int (kH H x).2])) → Pd H vs (vs.map (kH H))
  | [], _ => .nil
  | v :: vs, h => by
    obtain ⟨t, rfl, ht⟩ := h v List.mem_cons_self
    exact .cons ht (pd_of fun x hx => h x (List.mem_cons_of_mem _ hx))
theorem kp_seqTL {K : PySem.W.Frag} {H H' : Hp} {p b : Addr} {ys xs : List V} (f : Kp p H H') (hp : H p = some (.lst ys)) (h : SqT K H b xs) : SqT K H' b xs := by
  rcases h with (h | ⟨o, h⟩) | h
  · refine .inl (.inl (f _ _ ?_ h))
    rintro rfl
    rw [hp] at h
    cases h
  · refine .inl (.inr ⟨o, f _ _ ?_ h⟩)
    rintro rfl
    rw [hp] at h
    cases h
  · exact .inr h
namespace R
theorem srtP {K : PySem.W.Frag} {H : Hp} {Q : VK} {a : Addr} {vs : List V} {ps : List (Int × Int)} (h : SqL K H a vs) (hp : Pd H vs ps) (hn : ps.Nodup)
    (q : ∀ ws qs H' p, Pd H' ws qs → qs.Perm ps → qs.Pairwise ltp → Same H H' → H p = none → H' p = some (.lst ws) → Q (.ref p) H') : rSortedPO K [.ref a] H Q := by
  refine ⟨a, vs, kH H, rfl, h, hp.mem, fun ys p srt stb np => ?_⟩
  have pm : ys.Perm vs := stb.perm
  have hy := pd_of (H := H) (vs := ys) fun x hx => hp.mem x (pm.mem_iff.mp hx)
  have pq : (ys.map (kH H)).Perm ps := by
    rw [← hp.keys]
    exact pm.map _
  refine q ys (ys.map (kH H)) _ p (hy.same (same_upd np)) pq ?_ (same_upd np) np upd_same
  have hnd := pq.nodup_iff.mpr hn
  have h2 : (ys.map (kH H)).Pairwise (fun x y => SrtO.lexB y x = false) := List.pairwise_map.mpr srt
  refine List.Pairwise.imp ?_ (h2.and hnd)
  intro x y ⟨h3, h4⟩
  have h5 := SrtO.lexB_no.mp h3
  unfold ltp
  by_cases e1 : x.1 = y.1
  · by_cases e2 : x.2 = y.2
    · exact absurd (Prod.ext e1 e2) h4
    · omega
  · omega
end R
theorem srtPQ {X : Cx} (K : PySem.W.Frag) (h : X.K = K := by rfl) : CallR X (.builtin "sorted") (rSortedPO K) := by
  subst h
  exact cr_sortedPO

/-! ### loops over two fors -/
theorem out_list {K : PySem.W.Frag} {a : Addr} {xs : List V} {F : V → Hp → (Hp → Prop) → Prop} {H0 : Hp} {Qd : Hp → Prop} (Pv : Nat → Hp → Prop) (h0 : Pv 0 H0) (hl : ∀ i H, i ≤ xs.length → Pv i H → SqL K H a xs)
    (hs : ∀ i x H, xs[i]? = some x → Pv i H → F x H (Pv (i + 1))) (hd : ∀ H, Pv xs.length H → Qd H) :
    ∃ W : Nat → Nat → Hp → Prop, (∃ m, W 0 m H0) ∧ ∀ i m H, W i m H → ((Itl K a).stop i H ∧ Qd H) ∨ ((Itl K a).go i H ∧ ∃ Nx : Hp → Prop, (∀ H', Nx H' → ∃ m', m' < m ∧ W (i + 1) m' H') ∧ ∀ x H', (Itl K a).yld i H x H' → F x H' Nx) := by
  refine ⟨fun i m H => m = xs.length - i ∧ i ≤ xs.length ∧ Pv i H, ⟨xs.length, by simp, Nat.zero_le _, h0⟩, ?_⟩
  rintro i m H ⟨rfl, hi, p⟩
  have q := hl i H hi p
  by_cases hlt : i < xs.length
  · refine .inr ⟨⟨xs, xs[i], q, by simp [hlt]⟩, Pv (i + 1), fun H' p' => ⟨xs.length - (i + 1), by omega, rfl, hlt, p'⟩, fun x H' y => ?_⟩
    obtain ⟨e, y⟩ := y
    subst e
    exact hs i x _ (y xs q) p
  · have e : i = xs.length := by omega
    subst e
    exact .inl ⟨⟨xs, q, Nat.le_refl _⟩, hd H p⟩
theorem out_range {lo : Int} {n : Nat} {F : V → Hp → (Hp → Prop) → Prop} {H0 : Hp} {Qd : Hp → Prop} (Pv : Nat → Hp → Prop) (h0 : Pv 0 H0)
    (hs : ∀ i H, i < n → Pv i H → F (.int (lo + (i : Nat))) H (Pv (i + 1))) (hd : ∀ H, Pv n H → Qd H) :
    ∃ W : Nat → Nat → Hp → Prop, (∃ m, W 0 m H0) ∧ ∀ i m H, W i m H → ((Itr lo n).stop i H ∧ Qd H) ∨ ((Itr lo n).go i H ∧ ∃ Nx : Hp → Prop, (∀ H', Nx H' → ∃ m', m' < m ∧ W (i + 1) m' H') ∧ ∀ x H', (Itr lo n).yld i H x H' → F x H' Nx) := by
  refine ⟨fun i m H => m = n - i ∧ i ≤ n ∧ Pv i H, ⟨n, by simp, Nat.zero_le _, h0⟩, ?_⟩
  rintro i m H ⟨rfl, hi, p⟩
  by_cases hlt : i < n
  · refine .inr ⟨hlt, Pv (i + 1), fun H' p' => ⟨n - (i + 1), by omega, rfl, hlt, p'⟩, fun x H' y => ?_⟩
    obtain ⟨e, y⟩ := y
    subst e y
    exact hs i _ hlt p
  · have e : i = n := by omega
    subst e
    exact .inl ⟨Nat.le_refl _, hd H p⟩

/-! ### whole roots -/
section
variable {X : Cx}
theorem cr_isqrt : CallR X (.builtin "math.isqrt") (fun vs H Q => ∃ i : Int, vs = [.int i] ∧ 0 ≤ i ∧ i.natAbs < 2 ^ 13000 ∧ Q (.int ((Float64.isqrt i.toNat : Nat) : Int)) H) := by
  intro pins s σ H vs us Q I r h
  obtain ⟨i, rfl, h0, h1, q⟩ := h
  obtain ⟨u, rfl, t, rfl⟩ := vals1 r
  have hl : i.toNat.log2 < 13000 := PySem.Flt.log2_lt_of (by decide) (by omega)
  exact call_function_meets PySem.W.MGF.kind_isqrt PySem.W.MGF.plain_isqrt PySem.W.MGF.entry_isqrt (PySem.W.MGF.args_isqrt _) (PySem.W.mg_run_isqrt i t (by omega) (by omega) (by omega)).meets ⟨.int _, H, I.tok _, ⟨_, rfl⟩, q⟩
end
def rootI (n : Int) : Int := ((Float64.isqrt n.toNat : Nat) : Int)
theorem rootI_spec {n : Int} (h : 0 ≤ n) : 0 ≤ rootI n ∧ rootI n * rootI n ≤ n ∧ n < (rootI n + 1) * (rootI n + 1) := by
  obtain ⟨k, rfl⟩ := Int.eq_ofNat_of_zero_le h
  have e := Float64.isqrt_spec k
  unfold rootI
  have e2 : Int.toNat (k : Int) = k := rfl
  rw [e2]
  generalize Float64.isqrt k = m at e ⊢
  refine ⟨Int.natCast_nonneg m, ?_, ?_⟩
  · exact_mod_cast e.1
  · exact_mod_cast e.2
theorem rootI_lt {n : Int} {b : Nat} (h : 0 ≤ n) (hb : n.natAbs < 2 ^ b) : (rootI n).natAbs < 2 ^ b := by
  obtain ⟨h0, h1, h2⟩ := rootI_spec h
  have h3 : rootI n ≤ n := by
    by_cases e : rootI n = 0
    · omega
    · have h4 : 1 * rootI n ≤ rootI n * rootI n := Int.mul_le_mul_of_nonneg_right (by omega) h0
      omega
  omega
/-! ### common measures -/
def gI (a b : Int) : Int := ((Nat.gcd a.natAbs b.natAbs : Nat) : Int)
theorem gI_nn (a b : Int) : 0 ≤ gI a b := Int.natCast_nonneg _
theorem gI_lt {a b : Int} {B : Nat} (ha : a.natAbs < B) (hb : b.natAbs < B) : (gI a b).natAbs < B := by
  unfold gI
  rw [Int.natAbs_natCast]
  by_cases h : a.natAbs = 0
  · rw [h, Nat.gcd_zero_left]
    exact hb
  · exact Nat.lt_of_le_of_lt (Nat.gcd_le_left _ (by omega)) ha
def gL (ns : List Int) : Int := ns.foldl gI 0
theorem gL_take {ns : List Int} {i : Nat} {x : Int} (h : ns[i]? = some x) : gL (ns.take (i + 1)) = gI (gL (ns.take i)) x := by
  unfold gL
  rw [List.take_add_one, h, List.foldl_append]
  rfl
/-- one step of the walk of measures: what // and the rest are -/
theorem fd_rest {g r : Int} (h : r ≠ 0) : (g - g.fdiv r * r).natAbs < r.natAbs ∧ (0 < r → 0 ≤ g - g.fdiv r * r) ∧ (r < 0 → g - g.fdiv r * r ≤ 0) := by
  have e : g - g.fdiv r * r = g.fmod r := by
    rw [Int.fmod_def, Int.mul_comm]
  rw [e]
  by_cases hr : 0 < r
  · have h1 := Int.fmod_nonneg_of_pos g hr
    have h2 := Int.fmod_lt_of_pos g hr
    refine ⟨by omega, fun _ => h1, fun _ => by omega⟩
  · have h1 := Int.fmod_nonneg_of_pos (-g) (b := -r) (by omega)
    have h2 := Int.fmod_lt_of_pos (-g) (b := -r) (by omega)
    rw [Int.neg_fmod_neg] at h1 h2
    refine ⟨by omega, fun _ => by omega, fun _ => by omega⟩
theorem gcd_step (g q r : Int) : Nat.gcd r.natAbs (g - q * r).natAbs = Nat.gcd g.natAbs r.natAbs := by
  have e1 : Int.gcd r (g - q * r) = Int.gcd r g := by
    rw [Int.sub_eq_add_neg, ← Int.neg_mul]
    exact Int.gcd_add_mul_right_right ..
  have e2 : Int.gcd r g = Int.gcd g r := Int.gcd_comm r g
  exact e1.trans e2
theorem step_lt {g rest u ru q r B : Nat} (hg : g = q * rest + r) (h : ru * g + u * rest ≤ B) : (u + q * ru) * rest + ru * r ≤ B := by
  have e : (u + q * ru) * rest + ru * r = ru * g + u * rest := by
    rw [hg, Nat.add_mul, Nat.mul_add, Nat.mul_comm q ru, Nat.mul_assoc]
    omega
  omega
/-- the state of bezout's walk -/
def Bz (a b g u v r ru rv : Int) : Prop := u * a + v * b = g ∧ ru * a + rv * b = r ∧ (((Nat.gcd g.natAbs r.natAbs : Nat) : Int) = gI a b ∧ u.natAbs ≤ a.natAbs + 2 * b.natAbs + 1 ∧ v.natAbs ≤ a.natAbs + 2 * b.natAbs + 1) ∧
  ((g = a ∧ r = b ∧ u = 1 ∧ v = 0 ∧ ru = 0 ∧ rv = 1) ∨
    (((0 ≤ g ∧ 0 ≤ r) ∨ (g ≤ 0 ∧ r ≤ 0)) ∧ g.natAbs ≤ b.natAbs ∧ r.natAbs < g.natAbs ∧
      ru.natAbs * g.natAbs + u.natAbs * r.natAbs ≤ a.natAbs + 2 * b.natAbs ∧ rv.natAbs * g.natAbs + v.natAbs * r.natAbs ≤ a.natAbs + 2 * b.natAbs))
theorem same_div {g r : Int} (h : (0 ≤ g ∧ 0 < r) ∨ (g ≤ 0 ∧ r < 0)) : g.natAbs = (g.fdiv r).natAbs * r.natAbs + (g - g.fdiv r * r).natAbs := by
  have hr : r ≠ 0 := by omega
  obtain ⟨h1, h2, h3⟩ := fd_rest (g := g) hr
  have hq : 0 ≤ g.fdiv r := by
    rcases h with ⟨a, b⟩ | ⟨a, b⟩
    · exact Int.fdiv_nonneg a (by omega)
    · rw [← Int.neg_fdiv_neg]
      exact Int.fdiv_nonneg (by omega) (by omega)
  obtain ⟨q, e⟩ := Int.eq_ofNat_of_zero_le hq
  rw [e] at h2 h3 ⊢
  rcases h with ⟨a, b⟩ | ⟨a, b⟩
  · have k := h2 b
    have z : g = (q : Int) * r + (g - (q : Int) * r) := by omega
    obtain ⟨r', rfl⟩ := Int.eq_ofNat_of_zero_le (show 0 ≤ r by omega)
    have e2 : ((q * r' : Nat) : Int) = (q : Int) * (r' : Int) := Int.natCast_mul q r'
    rw [Int.natAbs_natCast, Int.natAbs_natCast]
    rw [← e2] at k ⊢
    omega
  · have k := h3 b
    obtain ⟨r', hr'⟩ := Int.eq_ofNat_of_zero_le (show 0 ≤ -r by omega)
    have er : r = -(r' : Int) := by omega
    subst er
    have e2 : ((q * r' : Nat) : Int) = (q : Int) * (r' : Int) := Int.natCast_mul q r'
    rw [Int.mul_neg, ← e2] at k ⊢
    rw [Int.natAbs_natCast, Int.natAbs_neg, Int.natAbs_natCast]
    omega
theorem abs_sub_mul (u q ru : Int) : (u - q * ru).natAbs ≤ u.natAbs + q.natAbs * ru.natAbs := by
  rw [← Int.natAbs_mul]
  omega
theorem natAbs_tri {g q r : Int} (k : (g - q).natAbs < r.natAbs) : q.natAbs ≤ g.natAbs + r.natAbs := by omega
theorem bz_q {g r : Int} (hr : r ≠ 0) : (g.fdiv r).natAbs ≤ g.natAbs + 1 ∧ (g.fdiv r).natAbs * r.natAbs ≤ g.natAbs + r.natAbs := by
  obtain ⟨k1, _, _⟩ := fd_rest (g := g) hr
  have z2 : (g.fdiv r).natAbs * r.natAbs ≤ g.natAbs + r.natAbs := by
    rw [← Int.natAbs_mul]
    exact natAbs_tri k1
  have r1 : 1 ≤ r.natAbs := by omega
  clear k1 hr
  refine ⟨?_, z2⟩
  generalize (g.fdiv r).natAbs = q at *
  generalize g.natAbs = G at *
  generalize r.natAbs = R at *
  by_cases z : q ≤ G + 1
  · exact z
  · have z4 : (G + 2) * R ≤ q * R := Nat.mul_le_mul_right _ (by omega)
    have z5 : G * 1 ≤ G * R := Nat.mul_le_mul_left _ r1
    rw [Nat.add_mul] at z4
    omega
theorem bz_le {A B G R U W q : Nat} (z3 : q ≤ G + 1) (e2 : G ≤ B) (e3 : R < G) (e4 : U * G + W * R ≤ A + 2 * B) : q ≤ A + B + 1 ∧ R ≤ B ∧ U ≤ A + 2 * B + 1 := by
  have z4 : U * 1 ≤ U * G := Nat.mul_le_mul_left _ (by omega)
  exact ⟨by omega, by omega, by omega⟩
theorem Bz.size {a b g u v r ru rv : Int} (h : Bz a b g u v r ru rv) (hr : r ≠ 0) : (g.fdiv r).natAbs ≤ a.natAbs + b.natAbs + 1 ∧ r.natAbs ≤ b.natAbs ∧ ru.natAbs ≤ a.natAbs + 2 * b.natAbs + 1 ∧ rv.natAbs ≤ a.natAbs + 2 * b.natAbs + 1 := by
  obtain ⟨h1, h2, h3, h4⟩ := h
  obtain ⟨z3, z2⟩ := bz_q (g := g) hr
  clear h1 h2 h3
  rcases h4 with ⟨e1, e2, e3, e4, e5, e6⟩ | ⟨e1, e2, e3, e4, e5⟩
  · subst e1 e2 e5 e6
    clear z2 hr e3 e4
    generalize (g.fdiv r).natAbs = q at *
    generalize g.natAbs = G at *
    generalize r.natAbs = R at *
    exact ⟨by omega, Nat.le_refl _, Nat.zero_le _, by show 1 ≤ _; omega⟩
  · obtain ⟨q1, q2, q3⟩ := bz_le z3 e2 e3 e4
    exact ⟨q1, q2, q3, (bz_le z3 e2 e3 e5).2.2⟩
theorem bz_lin (u v a b ru rv q : Int) : (u - q * ru) * a + (v - q * rv) * b = u * a + v * b - q * (ru * a + rv * b) := by
  rw [Int.sub_mul, Int.sub_mul, Int.mul_add, Int.mul_assoc, Int.mul_assoc]
  omega
theorem bz_sg {g r : Int} (hr : r ≠ 0) (h : (0 ≤ g ∧ 0 ≤ r) ∨ (g ≤ 0 ∧ r ≤ 0)) : (0 ≤ g ∧ 0 < r) ∨ (g ≤ 0 ∧ r < 0) := by omega
theorem bz_first {g r : Int} (hr : r ≠ 0) : (0 - g.fdiv r * 1).natAbs * r.natAbs + Int.natAbs 1 * (g - g.fdiv r * r).natAbs ≤ g.natAbs + 2 * r.natAbs := by
  obtain ⟨_, z2⟩ := bz_q (g := g) hr
  obtain ⟨k1, _, _⟩ := fd_rest (g := g) hr
  have z : (0 - g.fdiv r * 1).natAbs = (g.fdiv r).natAbs := by omega
  rw [z, show Int.natAbs 1 = 1 from rfl, Nat.one_mul]
  generalize (g.fdiv r).natAbs * r.natAbs = Y at *
  generalize (g - g.fdiv r * r).natAbs = Z at *
  generalize g.natAbs = G at *
  generalize r.natAbs = R at *
  clear z hr
  omega
theorem Bz.step {a b g u v r ru rv : Int} (h : Bz a b g u v r ru rv) (hr : r ≠ 0) : Bz a b r ru rv (g - g.fdiv r * r) (u - g.fdiv r * ru) (v - g.fdiv r * rv) := by
  have sz := h.size hr
  obtain ⟨h1, h2, h3, h4⟩ := h
  obtain ⟨k1, k2, k3⟩ := fd_rest (g := g) hr
  refine ⟨h2, ?_, ⟨by rw [gcd_step]; exact h3.1, sz.2.2⟩, .inr ⟨?_, ?_, k1, ?_, ?_⟩⟩
  · rw [bz_lin, h1, h2]
  · clear h1 h2 h3 h4 sz k1
    by_cases z : 0 < r
    · exact .inl ⟨Int.le_of_lt z, k2 z⟩
    · exact .inr ⟨Int.not_lt.mp z, k3 (by omega)⟩
  · rcases h4 with ⟨e1, e2, _⟩ | ⟨_, e2, e3, _⟩
    · rw [e2]
      exact Nat.le_refl _
    · exact Nat.le_of_lt (Nat.lt_of_lt_of_le e3 e2)
  · rcases h4 with ⟨e1, e2, e3, e4, e5, e6⟩ | ⟨e1, e2, e3, e4, e5⟩
    · clear h1 h2 h3 sz k1 k2 k3 e1 e4 e6 hr
      rw [e3, e5, e2]
      simp
      omega
    · exact Nat.le_trans (Nat.add_le_add_right (Nat.mul_le_mul_right _ (abs_sub_mul u (g.fdiv r) ru)) _) (step_lt (same_div (bz_sg hr e1)) e4)
  · rcases h4 with ⟨e1, e2, e3, e4, e5, e6⟩ | ⟨e1, e2, e3, e4, e5⟩
    · rw [e4, e6, ← e1, ← e2]
      exact bz_first hr
    · exact Nat.le_trans (Nat.add_le_add_right (Nat.mul_le_mul_right _ (abs_sub_mul v (g.fdiv r) rv)) _) (step_lt (same_div (bz_sg hr e1)) e5)

/-! ### the law's own root -/
theorem rootI_uniq {n r : Int} (h : 0 ≤ n) (h0 : 0 ≤ r) (h1 : r * r ≤ n) (h2 : n < (r + 1) * (r + 1)) : r = rootI n := by
  obtain ⟨k0, k1, k2⟩ := rootI_spec h
  generalize rootI n = s at k0 k1 k2 ⊢
  by_cases a : r < s
  · have z : (r + 1) * (r + 1) ≤ s * s := Int.mul_le_mul (by omega) (by omega) (by omega) (by omega)
    omega
  · by_cases b : s < r
    · have z : (s + 1) * (s + 1) ≤ r * r := Int.mul_le_mul (by omega) (by omega) (by omega) (by omega)
      omega
    · omega
theorem half_step {low high n : Int} {i : Nat} (h : low + 1 < high) (hi : (high - low - 1) * 2 ^ i ≤ n) : ((low + high) / 2 - low - 1) * 2 ^ (i + 1) ≤ n ∧ (high - (low + high) / 2 - 1) * 2 ^ (i + 1) ≤ n ∧ low < (low + high) / 2 ∧ (low + high) / 2 < high := by
  have e : (2 : Int) ^ (i + 1) = 2 * 2 ^ i := by rw [Int.pow_succ, Int.mul_comm]
  have p0 : (0 : Int) < 2 ^ i := Int.pow_pos (by decide)
  rw [e]
  generalize (2 : Int) ^ i = B at hi p0 ⊢
  have m1 : (low + high) / 2 - low - 1 ≤ (high - low - 1) / 2 := by omega
  have m2 : high - (low + high) / 2 - 1 ≤ (high - low - 1) / 2 := by omega
  have m3 : 2 * ((high - low - 1) / 2) ≤ high - low - 1 := by omega
  refine ⟨?_, ?_, by omega, by omega⟩
  · have a1 : ((low + high) / 2 - low - 1) * (2 * B) = (2 * ((low + high) / 2 - low - 1)) * B := by grind
    have a2 : (2 * ((low + high) / 2 - low - 1)) * B ≤ (high - low - 1) * B := Int.mul_le_mul_of_nonneg_right (by omega) (by omega)
    omega
  · have a1 : (high - (low + high) / 2 - 1) * (2 * B) = (2 * (high - (low + high) / 2 - 1)) * B := by grind
    have a2 : (2 * (high - (low + high) / 2 - 1)) * B ≤ (high - low - 1) * B := Int.mul_le_mul_of_nonneg_right (by omega) (by omega)
    omega

/-! ### continued fractions -/
def partI (p q root : Int) : Int := if 0 < q then (p + root).fdiv q else (p + root + 1).fdiv q
def nxt (d root : Int) (s : Int × Int) : Int × Int := (partI s.1 s.2 root * s.2 - s.1, (d - (partI s.1 s.2 root * s.2 - s.1) * (partI s.1 s.2 root * s.2 - s.1)).fdiv s.2)
def cf (d root : Int) (s : Int × Int) : Nat → Int × Int
  | 0 => s
  | k + 1 => nxt d root (cf d root s k)
def cfa (d : Int) (s : Int × Int) (i : Nat) : Int := partI (cf d (rootI d) s i).1 (cf d (rootI d) s i).2 (rootI d)
/-- what the walk of expand wants -/
def ExOk (p q d : Int) (n j : Nat) : Prop := 0 ≤ d ∧ d < 2 ^ 60 ∧ rootI d * rootI d ≠ d ∧ q ≠ 0 ∧ (d - p * p).fmod q = 0 ∧ j < n ∧ n ≤ 100000 ∧ cf d (rootI d) (p, q) n = cf d (rootI d) (p, q) j ∧
  (∀ a b, a < b → b < n → cf d (rootI d) (p, q) a ≠ cf d (rootI d) (p, q) b) ∧ ∀ i, i ≤ n → (cf d (rootI d) (p, q) i).1.natAbs < 2 ^ 60 ∧ (cf d (rootI d) (p, q) i).2.natAbs < 2 ^ 60 ∧ (cf d (rootI d) (p, q) i).2 ≠ 0
def ckey (s : Int × Int) : List Key := [.inl s.1, .inl s.2]
theorem ckey_inj {s t : Int × Int} (h : ckey s = ckey t) : s = t := by
  unfold ckey at h
  injection h with h1 h2
  injection h2 with h2 _
  injection h1 with h1
  injection h2 with h2
  exact Prod.ext h1 h2
def ckv (f : Nat → Int × Int) (n : Nat) : List (List Key × V) := (List.range n).map fun i => (ckey (f i), V.int (i : Int))
theorem ckv_succ (f : Nat → Int × Int) (n : Nat) : ckv f (n + 1) = ckv f n ++ [(ckey (f n), V.int (n : Int))] := by
  unfold ckv
  rw [List.range_succ, List.map_append]
  rfl
theorem ckv_len (f : Nat → Int × Int) (n : Nat) : (ckv f n).length = n := by
  unfold ckv
  rw [List.length_map, List.length_range]
theorem valV_app {κ : Type} [DecidableEq κ] (xs : List (κ × V)) (k : κ) (v : V) (k' : κ) : valV (xs ++ [(k, v)]) k' = (match valV xs k' with | some z => some z | none => if k = k' then some v else none) := by
  unfold valV
  rw [List.find?_append]
  cases h : xs.find? fun kv => decide (kv.1 = k') with
  | some z => rfl
  | none =>
    by_cases e : k = k'
    · simp [e]
    · simp [e]
theorem ckv_none {f : Nat → Int × Int} : ∀ {n : Nat} {s : Int × Int}, (∀ i, i < n → f i ≠ s) → valV (ckv f n) (ckey s) = none
  | 0, _, _ => rfl
  | n + 1, s, h => by
    rw [ckv_succ, valV_app, ckv_none fun i hi => h i (by omega)]
    exact if_neg fun e => h n (by omega) (ckey_inj e)
theorem ckv_some {f : Nat → Int × Int} {s : Int × Int} {j : Nat} (hj : f j = s) : ∀ {n : Nat}, j < n → (∀ i, i < j → f i ≠ s) → valV (ckv f n) (ckey s) = some (.int (j : Int))
  | 0, h, _ => absurd h (by omega)
  | n + 1, h, k => by
    rw [ckv_succ, valV_app]
    by_cases e : j < n
    · rw [ckv_some hj e k]
    · have e1 : j = n := by omega
      subst e1
      rw [ckv_none k]
      exact if_pos (congrArg ckey hj)
theorem ckv_put {f : Nat → Int × Int} {n : Nat} (h : ∀ i, i < n → f i ≠ f n) : putK (ckv f n) (ckey (f n)) (.int (n : Int)) = ckv f (n + 1) := by
  unfold putK
  rw [valV_any, ckv_none h, ckv_succ]
  exact if_neg Bool.false_ne_true
/-! ### reduced pairs -/
structure Red (d root P Q : Int) : Prop where
  q0 : 0 < Q
  p1 : P ≤ root
  lo : root - P < Q
  hi : Q ≤ root + P
  dv : Q ∣ d - P * P
theorem partI_pos {p q root : Int} (h : 0 < q) : partI p q root = (p + root) / q := by
  unfold partI
  rw [if_pos h, Int.fdiv_eq_ediv_of_nonneg _ (by omega)]
theorem nxt_exact {d root P Q : Int} (h : Q ≠ 0) (dv : Q ∣ d - P * P) : (nxt d root (P, Q)).2 * Q = d - (nxt d root (P, Q)).1 * (nxt d root (P, Q)).1 := by
  obtain ⟨c, hc⟩ := dv
  unfold nxt
  show (d - (partI P Q root * Q - P) * (partI P Q root * Q - P)).fdiv Q * Q = d - (partI P Q root * Q - P) * (partI P Q root * Q - P)
  generalize partI P Q root = a
  refine Int.fdiv_mul_cancel_of_fmod_eq_zero (Int.fmod_eq_zero_of_dvd ⟨c - a * a * Q + 2 * a * P, ?_⟩)
  grind
theorem Red.step {d root P Q : Int} (r0 : 0 ≤ root) (h1 : root * root < d) (h2 : d < (root + 1) * (root + 1)) (R : Red d root P Q) : Red d root (nxt d root (P, Q)).1 (nxt d root (P, Q)).2 := by
  have ex := nxt_exact (root := root) (Int.ne_of_gt R.q0) R.dv
  obtain ⟨q0, p1, lo, hi, dv⟩ := R
  have e1 : (nxt d root (P, Q)).1 = (P + root) / Q * Q - P := by
    unfold nxt
    show partI P Q root * Q - P = _
    rw [partI_pos q0]
  generalize (nxt d root (P, Q)).1 = P' at ex e1 ⊢
  generalize (nxt d root (P, Q)).2 = Q' at ex ⊢
  have a1 : (P + root) / Q * Q ≤ P + root := Int.ediv_mul_le _ (by omega)
  have a2 : P + root < (P + root) / Q * Q + Q := by
    have z := Int.lt_ediv_add_one_mul_self (P + root) q0
    rw [Int.add_mul, Int.one_mul] at z
    exact z
  have a3 : 1 ≤ (P + root) / Q := by
    have z : 1 * Q ≤ P + root := by omega
    exact (Int.le_ediv_iff_mul_le q0).mpr z
  have a4 : 1 * Q ≤ (P + root) / Q * Q := Int.mul_le_mul_of_nonneg_right a3 (by omega)
  generalize (P + root) / Q * Q = aQ at a1 a2 a4 e1
  have b1 : P' ≤ root := by omega
  have b2 : root - Q < P' := by omega
  have b3 : -root < P' := by omega
  have b4 : Q ≤ root + P' := by omega
  have c1 : P' * P' ≤ root * root := by
    have z : 0 ≤ (root - P') * (root + P') := Int.mul_nonneg (by omega) (by omega)
    have z2 : (root - P') * (root + P') = root * root - P' * P' := by grind
    omega
  have c2 : 0 < Q' * Q := by omega
  have c3 : 0 < Q' := by
    by_cases z : 0 < Q'
    · exact z
    · have z2 : Q' * Q ≤ 0 * Q := Int.mul_le_mul_of_nonneg_right (by omega) (by omega)
      omega
  refine ⟨c3, b1, ?_, ?_, ?_⟩
  · by_cases z : root - P' < Q'
    · exact z
    · have z2 : Q' * Q ≤ (root - P') * (root + P') := Int.mul_le_mul (by omega) b4 (by omega) (by omega)
      have z3 : (root - P') * (root + P') = root * root - P' * P' := by grind
      omega
  · by_cases z : Q' ≤ root + P'
    · exact z
    · have z2 : (root + P' + 1) * (root - P' + 1) ≤ Q' * Q := Int.mul_le_mul (by omega) (by omega) (by omega) (by omega)
      have z3 : (root + P' + 1) * (root - P' + 1) = (root + 1) * (root + 1) - P' * P' := by grind
      omega
  · exact ⟨Q, by omega⟩
theorem Red.back {d root P Q P2 Q2 : Int} (R : Red d root P Q) (S : Red d root P2 Q2) (r0 : 0 ≤ root) (h1 : root * root < d) (h2 : d < (root + 1) * (root + 1)) (e : nxt d root (P, Q) = nxt d root (P2, Q2)) : P = P2 ∧ Q = Q2 := by
  have ex := nxt_exact (root := root) (Int.ne_of_gt R.q0) R.dv
  have ex2 := nxt_exact (root := root) (Int.ne_of_gt S.q0) S.dv
  have N := R.step r0 h1 h2
  have e1 : (nxt d root (P, Q)).1 = partI P Q root * Q - P := rfl
  have e2 : (nxt d root (P2, Q2)).1 = partI P2 Q2 root * Q2 - P2 := rfl
  rw [← e] at ex2 e2
  have n0 := N.q0
  generalize (nxt d root (P, Q)).1 = P' at ex ex2 e1 e2
  generalize (nxt d root (P, Q)).2 = Q' at ex ex2 n0
  have eq : Q = Q2 := Int.eq_of_mul_eq_mul_left (Int.ne_of_gt n0) (ex.trans ex2.symm)
  subst eq
  refine ⟨?_, rfl⟩
  have l1 := R.lo
  have l2 := S.lo
  have u1 := R.p1
  have u2 := S.p1
  have q0 := R.q0
  generalize partI P Q root = a at e1
  generalize partI P2 Q root = b at e2
  have e3 : (a - b) * Q = P - P2 := by
    rw [Int.sub_mul]
    omega
  by_cases z : a - b ≤ -1
  · have z2 : (a - b) * Q ≤ -1 * Q := Int.mul_le_mul_of_nonneg_right z (by omega)
    omega
  · by_cases z' : 1 ≤ a - b
    · have z2 : 1 * Q ≤ (a - b) * Q := Int.mul_le_mul_of_nonneg_right z' (by omega)
      omega
    · have z2 : a - b = 0 := by omega
      rw [z2, Int.zero_mul] at e3
      omega
/-! ### the root of d: from (0, 1) -/
section
variable {d root : Int}
theorem cf_one (hq : True) : cf d root (0, 1) 1 = (root, d - root * root) := by
  show nxt d root (0, 1) = _
  unfold nxt
  show (partI 0 1 root * 1 - 0, (d - (partI 0 1 root * 1 - 0) * (partI 0 1 root * 1 - 0)).fdiv 1) = _
  have e : partI 0 1 root * 1 - 0 = root := by
    rw [partI_pos (by decide)]
    simp
  rw [e, Int.fdiv_one]
theorem cf_red (r0 : 0 ≤ root) (h1 : root * root < d) (h2 : d < (root + 1) * (root + 1)) : ∀ k, Red d root (cf d root (0, 1) (k + 1)).1 (cf d root (0, 1) (k + 1)).2
  | 0 => by
    rw [cf_one trivial]
    have e : (root + 1) * (root + 1) = root * root + 2 * root + 1 := by grind
    exact ⟨by show 0 < d - root * root; omega, by show root ≤ root; omega, by show root - root < d - root * root; omega, by show d - root * root ≤ root + root; omega, ⟨1, by show d - root * root = (d - root * root) * 1; omega⟩⟩
  | k + 1 => (cf_red r0 h1 h2 k).step r0 h1 h2
theorem cf_exact (r0 : 0 ≤ root) (h1 : root * root < d) (h2 : d < (root + 1) * (root + 1)) : ∀ k, (cf d root (0, 1) (k + 1)).2 * (cf d root (0, 1) k).2 = d - (cf d root (0, 1) (k + 1)).1 * (cf d root (0, 1) (k + 1)).1
  | 0 => by
    rw [cf_one trivial]
    show (d - root * root) * 1 = d - root * root
    omega
  | k + 1 => by
    have R := cf_red r0 h1 h2 k
    exact nxt_exact (P := (cf d root (0, 1) (k + 1)).1) (Q := (cf d root (0, 1) (k + 1)).2) (Int.ne_of_gt R.q0) R.dv
theorem cf_again (l : Nat) (h : (cf d root (0, 1) l).2 = 1) : cf d root (0, 1) (l + 1) = cf d root (0, 1) 1 := by
  rw [cf_one trivial]
  show nxt d root (cf d root (0, 1) l) = _
  unfold nxt
  rw [h]
  generalize (cf d root (0, 1) l).1 = P
  have e : partI P 1 root * 1 - P = root := by
    rw [partI_pos (by decide)]
    simp
    omega
  rw [e, Int.fdiv_one]
theorem cf_shift (l : Nat) (h : (cf d root (0, 1) l).2 = 1) : ∀ k, cf d root (0, 1) (l + (k + 1)) = cf d root (0, 1) (k + 1)
  | 0 => cf_again l h
  | k + 1 => by
    show nxt d root (cf d root (0, 1) (l + (k + 1))) = nxt d root (cf d root (0, 1) (k + 1))
    rw [cf_shift l h k]
theorem cf_unlike (r0 : 0 ≤ root) (h1 : root * root < d) (h2 : d < (root + 1) * (root + 1)) {l : Nat} (hm : ∀ k, 1 ≤ k → k < l → (cf d root (0, 1) k).2 ≠ 1) : ∀ j i, j < i → i ≤ l → cf d root (0, 1) j ≠ cf d root (0, 1) i
  | 0, i, hij, hl, e => by
    obtain ⟨k, rfl⟩ : ∃ k, i = k + 1 := ⟨i - 1, by omega⟩
    have R := cf_red r0 h1 h2 k
    rw [← e] at R
    have a := R.lo
    have b := R.hi
    have a2 : root - 0 < 1 := a
    have b2 : (1 : Int) ≤ root + 0 := b
    omega
  | 1, i, hij, hl, e => by
    obtain ⟨k, rfl⟩ : ∃ k, i = k + 2 := ⟨i - 2, by omega⟩
    have x := cf_exact r0 h1 h2 (k + 1)
    have R := cf_red r0 h1 h2 (k + 1)
    have x2 : (cf d root (0, 1) (k + 2)).2 * (cf d root (0, 1) (k + 1)).2 = d - (cf d root (0, 1) (k + 2)).1 * (cf d root (0, 1) (k + 2)).1 := x
    rw [← e, cf_one trivial] at x2
    have x3 : (d - root * root) * (cf d root (0, 1) (k + 1)).2 = (d - root * root) * 1 := by
      have y : (d - root * root) * (cf d root (0, 1) (k + 1)).2 = d - root * root := x2
      omega
    exact hm (k + 1) (by omega) (by omega) (Int.eq_of_mul_eq_mul_left (by omega) x3)
  | j + 2, i, hij, hl, e => by
    obtain ⟨k, rfl⟩ : ∃ k, i = k + 2 := ⟨i - 2, by omega⟩
    have b := (cf_red r0 h1 h2 j).back (cf_red r0 h1 h2 k) r0 h1 h2 e
    exact cf_unlike r0 h1 h2 hm (j + 1) (k + 1) (by omega) (by omega) (Prod.ext b.1 b.2)
end
/-! ### convergents -/
def cstep (s : (Int × Int) × (Int × Int)) (a : Int) : (Int × Int) × (Int × Int) := (s.2, (a * s.2.1 + s.1.1, a * s.2.2 + s.1.2))
def cst (ns : List Int) : (Int × Int) × (Int × Int) := ns.foldl cstep ((0, 1), (1, 0))
def cvl (ns : List Int) : List (Int × Int) := (List.range ns.length).map fun i => (cst (ns.take (i + 1))).2
theorem cst_take {ns : List Int} {i : Nat} {x : Int} (h : ns[i]? = some x) : cst (ns.take (i + 1)) = cstep (cst (ns.take i)) x := by
  unfold cst
  rw [List.take_add_one, h, List.foldl_append]
  rfl
theorem cvl_take {ns : List Int} {i : Nat} (h : i < ns.length) : cvl (ns.take (i + 1)) = cvl (ns.take i) ++ [(cst (ns.take (i + 1))).2] := by
  unfold cvl
  have e1 : (ns.take (i + 1)).length = i + 1 := by rw [List.length_take]; omega
  have e2 : (ns.take i).length = i := by rw [List.length_take]; omega
  rw [e1, e2, List.range_succ, List.map_append]
  congr 1
  · refine List.map_congr_left fun k hk => ?_
    have hk' : k < i := List.mem_range.mp hk
    rw [List.take_take, List.take_take, Nat.min_eq_left (by omega), Nat.min_eq_left (by omega)]
  · show [(cst ((ns.take (i + 1)).take (i + 1))).2] = _
    rw [List.take_take, Nat.min_self]
inductive Prs (H : Hp) : List Addr → List (Int × Int) → Prop
  | nil : Prs H [] []
  | cons {a : Addr} {p : Int × Int} {as : List Addr} {ps : List (Int × Int)} : H a = some (.tup [.int p.1, .int p.2]) → Prs H as ps → Prs H (a :: as) (p :: ps)
theorem Prs.same {H H' : Hp} {as : List Addr} {ps : List (Int × Int)} (h : Prs H as ps) (s : Same H H') : Prs H' as ps := by
  induction h with
  | nil => exact .nil
  | cons e _ ih => exact .cons (s _ _ e) ih
theorem Prs.mono {H H' : Hp} {as : List Addr} {ps : List (Int × Int)} (h : Prs H as ps) (s : ∀ b xs, H b = some (.tup xs) → H' b = some (.tup xs)) : Prs H' as ps := by
  induction h with
  | nil => exact .nil
  | cons e _ ih => exact .cons (s _ _ e) ih
theorem Prs.snoc {H : Hp} {as : List Addr} {ps : List (Int × Int)} {a : Addr} {p : Int × Int} (h : Prs H as ps) (e : H a = some (.tup [.int p.1, .int p.2])) : Prs H (as ++ [a]) (ps ++ [p]) := by
  induction h with
  | nil => exact .cons e .nil
  | cons e' _ ih => exact .cons e' ih
theorem Prs.len {H : Hp} {as : List Addr} {ps : List (Int × Int)} (h : Prs H as ps) : as.length = ps.length := by
  induction h with
  | nil => rfl
  | cons _ _ ih => rw [List.length_cons, List.length_cons, ih]
def pdI (p : Int × Int) : PyData := .tuple [.int p.1, .int p.2]
theorem Prs.dp {K : PySem.W.Frag} {H : Hp} {as : List Addr} {ps : List (Int × Int)} (h : Prs H as ps) : DpAll K H (as.map V.ref) (ps.map pdI) := by
  induction h with
  | nil => exact .nil
  | cons e _ ih => exact .cons (.tup (SqT.of e) (.cons (.int _) (.cons (.int _) .nil))) ih
theorem lay_prs : ∀ ps : List (Int × Int), PyData.canLayAll0 (ps.map pdI) = true
  | [] => rfl
  | p :: ps => by
    rw [List.map_cons, PyData.canLayAll0, lay_prs ps]
    rfl
theorem depth_prs : ∀ ps : List (Int × Int), PyData.depthAll (ps.map pdI) ≤ 1
  | [] => Nat.zero_le _
  | p :: ps => by
    rw [List.map_cons, PyData.depthAll]
    have h := depth_prs ps
    have e : (pdI p).depth = 1 := by
      unfold pdI
      rw [PyData.depth]
      rfl
    omega
theorem shaped_prs (ps : List (Int × Int)) : SeqAt.shaped (.list (ps.map pdI)) = true := by
  show (PyData.canLay0 (.list (ps.map pdI)) && decide (PyData.depth (.list (ps.map pdI)) ≤ 64)) = true
  rw [Bool.and_eq_true]
  refine ⟨by rw [PyData.canLay0]; exact lay_prs ps, decide_eq_true ?_⟩
  rw [PyData.depth]
  have h := depth_prs ps
  omega
theorem Prs.at {H : Hp} {as : List Addr} {ps : List (Int × Int)} (h : Prs H as ps) : ∀ {i : Nat} {p : Int × Int}, ps[i]? = some p → ∃ a, as[i]? = some a ∧ H a = some (.tup [.int p.1, .int p.2]) := by
  induction h with
  | nil => intro i p e; simp at e
  | @cons a q as ps e _ ih =>
    intro i p e2
    cases i with
    | zero =>
      have e3 : q = p := Option.some.inj e2
      subst e3
      exact ⟨a, rfl, e⟩
    | succ i => exact ih e2
theorem at_end {α : Type} {xs : List α} {v : α} (h : xs[xs.length - 1]? = some v) : atI xs (-1) = some v := by
  have hl : 0 < xs.length := by
    cases xs with
    | nil => cases h
    | cons x r => exact Nat.succ_pos _
  have e : ixN xs.length (-1) = some (xs.length - 1) := by
    unfold ixN
    rw [if_neg (by decide), if_pos (by omega)]
    congr 1
    omega
  unfold atI
  rw [e]
  exact h
/-! ### pell -/
def aL (d : Int) (k : Nat) : List Int := (List.range k).map (cfa d (0, 1))
theorem aL_succ (d : Int) (k : Nat) : aL d (k + 1) = aL d k ++ [cfa d (0, 1) k] := by
  unfold aL
  rw [List.range_succ, List.map_append]
  rfl
theorem aL_len (d : Int) (k : Nat) : (aL d k).length = k := by
  unfold aL
  rw [List.length_map, List.length_range]
theorem aL_at {d : Int} {k i : Nat} (h : i < k) : (aL d k)[i]? = some (cfa d (0, 1) i) := by
  unfold aL
  rw [List.getElem?_map, List.getElem?_range h]
  rfl
theorem cst_aL (d : Int) (k : Nat) : cst (aL d (k + 1)) = cstep (cst (aL d k)) (cfa d (0, 1) k) := by
  unfold cst
  rw [aL_succ, List.foldl_append]
  rfl
def sg (k : Nat) : Int := if k % 2 = 0 then 1 else -1
theorem sg_succ (k : Nat) : sg (k + 1) = -sg k := by
  unfold sg
  by_cases h : k % 2 = 0
  · rw [if_pos h, if_neg (by omega)]
  · rw [if_neg h, if_pos (by omega)]
    rfl
theorem nrm_q (Q1 Q2 P P2 d a R : Int) (h0 : Q1 ≠ 0) (hR : R*Q1 = d - P*P) (hQ2 : Q2*Q1 = d - P2*P2) (hP : P2 = a*Q1 - P) : Q2 = R + a*(P - P2) := by
  have z : (Q2 - (R + a*(P-P2)))*Q1 = 0 := by grind
  rcases Int.mul_eq_zero.mp z with h | h
  · omega
  · exact absurd h h0
theorem nrm_step (a p q e d P P2 Q1 Q2 R p0 q0 : Int) (h0 : Q1 ≠ 0) (h1 : p*p - d*(q*q) = e*Q1) (h2 : p*p0 - d*(q*q0) = -(e*P)) (h3 : p0*p0 - d*(q0*q0) = -(e*R)) (hP : P2 = a*Q1 - P) (hR : R*Q1 = d - P*P) (hQ2 : Q2*Q1 = d - P2*P2) :
    (a*p+p0)*(a*p+p0) - d*((a*q+q0)*(a*q+q0)) = -(e*Q2) ∧ (a*p+p0)*p - d*((a*q+q0)*q) = e*P2 := by
  have hQ : Q2 = R + a*(P - P2) := nrm_q Q1 Q2 P P2 d a R h0 hR hQ2 hP
  clear hQ2 hR h0
  constructor <;> grind
/-- d lies between two squares, and the walk of its root comes to the denominator 1 at l first -/
structure PellOk (d : Int) (l : Nat) : Prop where
  d0 : 0 < d
  d1 : d < 10001
  ns : rootI d * rootI d ≠ d
  l0 : 1 ≤ l
  l1 : l ≤ 40000
  one : (cf d (rootI d) (0, 1) l).2 = 1
  least : ∀ k, 1 ≤ k → k < l → (cf d (rootI d) (0, 1) k).2 ≠ 1
section
variable {d : Int} {l : Nat}
theorem PellOk.sq (h : PellOk d l) : 0 ≤ rootI d ∧ rootI d * rootI d < d ∧ d < (rootI d + 1) * (rootI d + 1) ∧ rootI d ≤ 100 := by
  have h0 := h.d0
  have h1 := h.d1
  have h2 := h.ns
  obtain ⟨a, b, c⟩ := rootI_spec (n := d) (by omega)
  refine ⟨a, by omega, c, ?_⟩
  by_cases z : rootI d ≤ 100
  · exact z
  · have e : 101 * 101 ≤ rootI d * rootI d := Int.mul_le_mul (by omega) (by omega) (by omega) (by omega)
    omega
theorem PellOk.red (h : PellOk d l) (k : Nat) : Red d (rootI d) (cf d (rootI d) (0, 1) (k + 1)).1 (cf d (rootI d) (0, 1) (k + 1)).2 := by
  obtain ⟨a, b, c, e⟩ := h.sq
  exact cf_red a b c k
theorem PellOk.size (h : PellOk d l) (k : Nat) : 0 ≤ (cf d (rootI d) (0, 1) k).1 ∧ (cf d (rootI d) (0, 1) k).1 ≤ 100 ∧ 0 < (cf d (rootI d) (0, 1) k).2 ∧ (cf d (rootI d) (0, 1) k).2 ≤ 200 := by
  obtain ⟨a, b, c, e⟩ := h.sq
  cases k with
  | zero => exact ⟨by show (0 : Int) ≤ 0; omega, by show (0 : Int) ≤ 100; omega, by show (0 : Int) < 1; omega, by show (1 : Int) ≤ 200; omega⟩
  | succ k =>
    have R := h.red k
    have r1 := R.q0
    have r2 := R.p1
    have r3 := R.lo
    have r4 := R.hi
    omega
theorem PellOk.part (h : PellOk d l) (k : Nat) : 0 ≤ cfa d (0, 1) k ∧ cfa d (0, 1) k ≤ 200 := by
  obtain ⟨a, b, c, e⟩ := h.sq
  obtain ⟨s1, s2, s3, s4⟩ := h.size k
  unfold cfa
  rw [partI_pos s3]
  have z := Int.ediv_le_self (a := (cf d (rootI d) (0, 1) k).1 + rootI d) (cf d (rootI d) (0, 1) k).2 (by omega)
  exact ⟨Int.ediv_nonneg (by omega) (by omega), by omega⟩
theorem PellOk.ex (h : PellOk d l) : ExOk 0 1 d (l + 1) 1 := by
  obtain ⟨a, b, c, e⟩ := h.sq
  have h0 := h.d0
  have h1 := h.d1
  have hl := h.l0
  have hl1 := h.l1
  refine ⟨by omega, by show d < 1152921504606846976; omega, h.ns, by decide, ?_, by omega, by omega, cf_again l h.one, fun i j hij hj => cf_unlike a b c h.least i j hij (by omega), fun i _ => ?_⟩
  · exact Int.fmod_one _
  · obtain ⟨s1, s2, s3, s4⟩ := h.size i
    exact ⟨by show _ < 1152921504606846976; omega, by show _ < 1152921504606846976; omega, by omega⟩
theorem PellOk.period (h : PellOk d l) : ∀ k, cf d (rootI d) (0, 1) (k + 1) = cf d (rootI d) (0, 1) (k % l + 1) := by
  intro k
  have hl := h.l0
  induction k using Nat.strongRecOn with
  | _ k ih =>
    by_cases hk : k < l
    · rw [Nat.mod_eq_of_lt hk]
    · have e := cf_shift l h.one (k - l)
      have e2 : l + (k - l + 1) = k + 1 := by omega
      rw [e2] at e
      rw [e, ih (k - l) (by omega)]
      have e3 : k % l = (k - l) % l := Nat.mod_eq_sub_mod (by omega)
      rw [e3]
theorem PellOk.nrm (h : PellOk d l) : ∀ k, (cst (aL d k)).2.1 * (cst (aL d k)).2.1 - d * ((cst (aL d k)).2.2 * (cst (aL d k)).2.2) = sg k * (cf d (rootI d) (0, 1) k).2 ∧ (cst (aL d k)).2.1 * (cst (aL d k)).1.1 - d * ((cst (aL d k)).2.2 * (cst (aL d k)).1.2) = -(sg k * (cf d (rootI d) (0, 1) k).1) ∧
    ∃ R, (cst (aL d k)).1.1 * (cst (aL d k)).1.1 - d * ((cst (aL d k)).1.2 * (cst (aL d k)).1.2) = -(sg k * R) ∧ R * (cf d (rootI d) (0, 1) k).2 = d - (cf d (rootI d) (0, 1) k).1 * (cf d (rootI d) (0, 1) k).1
  | 0 => ⟨by show (1 : Int) * 1 - d * (0 * 0) = 1 * 1; omega, by show (1 : Int) * 0 - d * (0 * 1) = -(1 * 0); omega, d, by show (0 : Int) * 0 - d * (1 * 1) = -(1 * d); omega, by show d * 1 = d - 0 * 0; omega⟩
  | k + 1 => by
    obtain ⟨h1, h2, R, h3, h4⟩ := h.nrm k
    obtain ⟨a, b, c, e⟩ := h.sq
    have x := cf_exact a b c k
    obtain ⟨s1, s2, s3, s4⟩ := h.size k
    have hP : (cf d (rootI d) (0, 1) (k + 1)).1 = cfa d (0, 1) k * (cf d (rootI d) (0, 1) k).2 - (cf d (rootI d) (0, 1) k).1 := rfl
    obtain ⟨n1, n2⟩ := nrm_step _ _ _ _ _ _ _ _ _ _ _ _ (by omega) h1 h2 h3 hP h4 x
    rw [cst_aL, sg_succ]
    refine ⟨?_, ?_, (cf d (rootI d) (0, 1) k).2, ?_, ?_⟩
    · rw [Int.neg_mul]
      exact n1
    · rw [Int.neg_mul, Int.neg_neg]
      exact n2
    · rw [Int.neg_mul, Int.neg_neg]
      exact h1
    · rw [Int.mul_comm]
      exact x
theorem PellOk.wide (h : PellOk d l) : ∀ k, (cst (aL d k)).1.1.natAbs ≤ 2 ^ (8 * k) ∧ (cst (aL d k)).1.2.natAbs ≤ 2 ^ (8 * k) ∧ (cst (aL d k)).2.1.natAbs ≤ 2 ^ (8 * k) ∧ (cst (aL d k)).2.2.natAbs ≤ 2 ^ (8 * k)
  | 0 => by
    show Int.natAbs 0 ≤ 1 ∧ Int.natAbs 1 ≤ 1 ∧ Int.natAbs 1 ≤ 1 ∧ Int.natAbs 0 ≤ 1
    decide
  | k + 1 => by
    obtain ⟨h1, h2, h3, h4⟩ := h.wide k
    obtain ⟨a0, a1⟩ := h.part k
    rw [cst_aL]
    have e : (2 : Nat) ^ (8 * (k + 1)) = 2 ^ (8 * k) * 256 := by
      rw [Nat.mul_add, Nat.pow_add]
    rw [e]
    have st : ∀ x y : Int, x.natAbs ≤ 2 ^ (8 * k) → y.natAbs ≤ 2 ^ (8 * k) → (cfa d (0, 1) k * x + y).natAbs ≤ 2 ^ (8 * k) * 256 := by
      intro x y hx hy
      have z1 : (cfa d (0, 1) k * x).natAbs = (cfa d (0, 1) k).natAbs * x.natAbs := Int.natAbs_mul _ _
      have z2 : (cfa d (0, 1) k).natAbs * x.natAbs ≤ 200 * 2 ^ (8 * k) := Nat.mul_le_mul (by omega) hx
      generalize (2 : Nat) ^ (8 * k) = B at hx hy z2 ⊢
      omega
    exact ⟨by show (cst (aL d k)).2.1.natAbs ≤ _; omega, by show (cst (aL d k)).2.2.natAbs ≤ _; omega, st _ _ h3 h1, st _ _ h4 h2⟩
/-- how many parts pell takes -/
def pellN (l : Nat) : Nat := if l % 2 = 1 then 2 * l else l
theorem PellOk.hit (h : PellOk d l) {k : Nat} (hk : k < pellN l) : (cst (aL d (k + 1))).2.1 * (cst (aL d (k + 1))).2.1 - d * ((cst (aL d (k + 1))).2.2 * (cst (aL d (k + 1))).2.2) = 1 ↔ k + 1 = pellN l := by
  rw [(h.nrm (k + 1)).1]
  obtain ⟨s1, s2, s3, s4⟩ := h.size (k + 1)
  have hl := h.l0
  have per := h.period k
  have q1 : (cf d (rootI d) (0, 1) (k + 1)).2 = 1 ↔ (k + 1) % l = 0 := by
    by_cases z : k % l + 1 < l
    · have lm := h.least (k % l + 1) (by omega) z
      rw [← per] at lm
      have e : (k + 1) % l = k % l + 1 := by
        rw [Nat.add_mod, Nat.mod_eq_of_lt (show 1 < l by omega), Nat.mod_eq_of_lt z]
      exact ⟨fun y => absurd y lm, fun y => by omega⟩
    · have zl := Nat.mod_lt k (show 0 < l by omega)
      have e2 : k % l + 1 = l := by omega
      have e : (k + 1) % l = 0 := by
        have e3 := Nat.div_add_mod k l
        have e4 : k + 1 = l * (k / l + 1) := by
          rw [Nat.mul_add]
          omega
        rw [e4]
        exact Nat.mul_mod_right _ _
      rw [per, e2]
      exact ⟨fun _ => e, fun _ => h.one⟩
  have sgn : ∀ n, sg n = 1 ∨ sg n = -1 := fun n => by
    unfold sg
    split
    · exact .inl rfl
    · exact .inr rfl
  have s5 : sg (k + 1) * (cf d (rootI d) (0, 1) (k + 1)).2 = 1 ↔ (k + 1) % 2 = 0 ∧ (k + 1) % l = 0 := by
    rw [← q1]
    unfold sg
    by_cases z : (k + 1) % 2 = 0
    · rw [if_pos z]
      exact ⟨fun y => ⟨z, by omega⟩, fun y => by omega⟩
    · rw [if_neg z]
      exact ⟨fun y => by omega, fun y => absurd y.1 z⟩
  rw [s5]
  unfold pellN at hk ⊢
  by_cases odd : l % 2 = 1
  · rw [if_pos odd] at hk ⊢
    constructor
    · rintro ⟨y1, y2⟩
      obtain ⟨c, hc⟩ := Nat.dvd_of_mod_eq_zero y2
      have c1 : c ≠ 1 := fun z => by
        rw [z] at hc
        omega
      have c2 : c ≠ 0 := fun z => by
        rw [z] at hc
        omega
      have c3 : l * 2 ≤ l * c := Nat.mul_le_mul_left _ (by omega)
      omega
    · intro y
      rw [y]
      exact ⟨by omega, Nat.mod_eq_zero_of_dvd ⟨2, by omega⟩⟩
  · rw [if_neg odd] at hk ⊢
    constructor
    · rintro ⟨y1, y2⟩
      obtain ⟨c, hc⟩ := Nat.dvd_of_mod_eq_zero y2
      have c2 : c ≠ 0 := fun z => by
        rw [z] at hc
        omega
      have c3 : l * 1 ≤ l * c := Nat.mul_le_mul_left _ (by omega)
      omega
    · intro y
      rw [y]
      exact ⟨by omega, Nat.mod_self l⟩
end

/-! ### Nat -/
section
variable {X : Cx}
theorem modNN : OpR X (binaryOp .Mod) (fun x y H Q => ∃ n m : Nat, x = .int (n : Int) ∧ y = .int (m : Int) ∧ 0 < m ∧ Q (.int ((n % m : Nat) : Int)) H) := by
  intro pins s σ H x y v u Q I rx ry h
  obtain ⟨n, m, rfl, rfl, c, q⟩ := h
  rw [Int.natCast_emod] at q
  exact op_mod pins s σ H _ _ v u Q I rx ry ⟨_, _, rfl, rfl, by show (0 : Int) < (m : Int); omega, q⟩
theorem mulNN : OpR X (binaryOp .Mult) (fun x y H Q => ∃ n m : Nat, x = .int (n : Int) ∧ y = .int (m : Int) ∧ (n < 2 ^ 64 ∨ m < 2 ^ 64) ∧ Q (.int ((n * m : Nat) : Int)) H) := by
  intro pins s σ H x y v u Q I rx ry h
  obtain ⟨n, m, rfl, rfl, c, q⟩ := h
  rw [Int.natCast_mul] at q
  refine op_mul pins s σ H _ _ v u Q I rx ry ⟨_, _, rfl, rfl, ?_, q⟩
  rcases c with c | c
  · have c' : n < 18446744073709551616 := c
    exact .inl ⟨by omega, by show (n : Int) < 18446744073709551616; omega⟩
  · have c' : m < 18446744073709551616 := c
    exact .inr ⟨by omega, by show (m : Int) < 18446744073709551616; omega⟩
theorem divNN : OpR X (binaryOp .FloorDiv) (fun x y H Q => ∃ n m : Nat, x = .int (n : Int) ∧ y = .int (m : Int) ∧ (0 < m ∧ m < 2 ^ 9000) ∧ Q (.int ((n / m : Nat) : Int)) H) := by
  intro pins s σ H x y v u Q I rx ry h
  obtain ⟨n, m, rfl, rfl, ⟨c1, c2⟩, q⟩ := h
  rw [Int.natCast_ediv] at q
  refine op_fdivW pins s σ H _ _ v u Q I rx ry ⟨_, _, rfl, rfl, ⟨by omega, ?_⟩, q⟩
  rw [Int.natAbs_natCast]
  exact PySem.Flt.log2_lt_of (by decide) c2
end
theorem div9 {m : Nat} (h0 : 0 < m) (h : m < 2 ^ 64) : 0 < m ∧ m < 2 ^ 9000 := ⟨h0, pow_up h (by decide)⟩
theorem powI (b n : Nat) : ((b : Int) ^ n) = ((b ^ n : Nat) : Int) := (Int.natCast_pow b n).symm
/-! ### mirrors -/
def pmL (m : Nat) : Nat → Nat → Nat → Nat → Nat
  | 0, r, _, _ => r
  | f + 1, r, s, k => bif k.beq 0 then r else pmL m f (bif (k % 2).beq 1 then r * s % m else r) (s * s % m) (k / 2)
/-- b ^ e % m, by halving -/
def pmod (b e m : Nat) : Nat := pmL m 64 1 (b % m) e
def toL (p : Nat) : Nat → Nat → Nat → Nat × Nat
  | 0, n, k => (k, n)
  | f + 1, n, k => bif (n % p).beq 0 then toL p f (n / p) (k + 1) else (k, n)
def takenOut (n p : Nat) : Nat × Nat := toL p 64 n 0
def behL (n : Nat) : Nat → Nat → Bool
  | 0, _ => false
  | k + 1, x => bif x.beq (n - 1) then true else behL n k (x * x % n)
def behaves (n base many odd : Nat) : Bool := bif (pmod base odd n).beq 1 then true else behL n many (pmod base odd n)
def wits : List Nat := [2, 3, 5, 7, 11, 13, 17, 19, 23, 29, 31, 37]
/-- n by the first of these that measures it: it is that one -/
def byW (n : Nat) : List Nat → Option Bool
  | [] => none
  | p :: r => bif (n % p).beq 0 then some (n.beq p) else byW n r
def isPrimeM (n : Nat) : Bool := bif n.ble 1 then false else match byW n wits with
  | some b => b
  | none => wits.all fun b => behaves n b (takenOut (n - 1) 2).1 (takenOut (n - 1) 2).2
def leastL (n : Nat) : Nat → Nat → Option Nat
  | 0, _ => none
  | f + 1, x => bif (n % x).beq 0 then some x else leastL n f (x + 2)
def leastM (n start : Nat) : Option Nat := bif (n % 2).beq 0 then some 2 else leastL n n (bif start.ble 3 then 3 else start)
/-- the prime parts, as the program finds them: none where its search would not end in this many steps -/
def ppL : Nat → Nat → Nat → Option (List (Nat × Nat))
  | 0, _, _ => none
  | f + 1, rest, p => bif rest.ble 1 then some [] else
    match (bif isPrimeM rest then some rest else leastM rest p) with
    | none => none
    | some q => match ppL f (takenOut rest q).2 q with
      | none => none
      | some l => some ((q, (takenOut rest q).1) :: l)
def ppM (n : Nat) : Option (List (Nat × Nat)) := ppL 70 n 2
theorem bifT {α : Type} {b : Bool} (h : b = true) (x y : α) : (bif b then x else y) = x := by rw [h]; rfl
theorem bifF {α : Type} {b : Bool} (h : b = false) (x y : α) : (bif b then x else y) = y := by rw [h]; rfl
theorem beqT {a b : Nat} (h : a = b) : a.beq b = true := by rw [h]; exact Nat.beq_refl b
theorem beqF {a b : Nat} (h : a ≠ b) : a.beq b = false := by
  cases e : a.beq b with
  | false => rfl
  | true => exact absurd (Nat.eq_of_beq_eq_true e) h
theorem bleT {a b : Nat} (h : a ≤ b) : a.ble b = true := Nat.ble_eq_true_of_le h
theorem bleF {a b : Nat} (h : ¬ a ≤ b) : a.ble b = false := by
  cases e : a.ble b with
  | false => rfl
  | true => exact absurd (Nat.le_of_ble_eq_true e) h
theorem toL_pos {p : Nat} (hp : 2 ≤ p) : ∀ {f n k : Nat}, 0 < n → 0 < (toL p f n k).2 ∧ (toL p f n k).2 ≤ n
  | 0, n, k, h => ⟨h, Nat.le_refl _⟩
  | f + 1, n, k, h => by
    unfold toL
    by_cases e : n % p = 0
    · rw [bifT (beqT e)]
      have h1 : p ≤ n := Nat.le_of_dvd h (Nat.dvd_of_mod_eq_zero e)
      have h2 : 0 < n / p := Nat.div_pos h1 (by omega)
      obtain ⟨a, b⟩ := toL_pos hp (f := f) (k := k + 1) h2
      exact ⟨a, Nat.le_trans b (Nat.div_le_self _ _)⟩
    · rw [bifF (beqF e)]
      exact ⟨h, Nat.le_refl _⟩
theorem pmL_lt {m : Nat} (h : 0 < m) : ∀ {f r s k : Nat}, r < m → pmL m f r s k < m
  | 0, r, s, k, hr => hr
  | f + 1, r, s, k, hr => by
    unfold pmL
    cases k.beq 0 with
    | true => exact hr
    | false =>
      refine pmL_lt h ?_
      cases (k % 2).beq 1 with
      | true => exact Nat.mod_lt _ h
      | false => exact hr
theorem pmod_lt {b e m : Nat} (h : 1 < m) : pmod b e m < m := pmL_lt (by omega) h
def nats (l : List (Nat × Nat)) : List (Int × Int) := l.map fun p => ((p.1 : Int), (p.2 : Int))

/-! ### residues: mirrors -/
def resM (u p : Nat) : Bool := (pmod u ((p - 1) / 2) p).beq 1
def lnrL (p : Nat) : Nat → Nat → Option Nat
  | 0, _ => none
  | f + 1, x => bif resM x p then lnrL p f (x + 1) else some x
def dblL (p : Nat) : Nat → Nat → Nat → Option Nat
  | 0, _, _ => none
  | f + 1, x, k => bif x.beq 1 then some k else dblL p f (x * x % p) (k + 1)
def sqN (p : Nat) : Nat → Nat → Nat
  | 0, t => t
  | k + 1, t => sqN p k (t * t % p)
def prL (p : Nat) : Nat → Nat → Nat → Nat → Nat → Option Nat
  | 0, _, _, _, _ => none
  | f + 1, root, rest, turn, many => bif rest.beq 1 then some root else
    match dblL p 100 rest 0 with
    | none => none
    | some order => prL p f (root * sqN p (many - order - 1) turn % p) (rest * (sqN p (many - order - 1) turn * sqN p (many - order - 1) turn % p) % p) (sqN p (many - order - 1) turn * sqN p (many - order - 1) turn % p) order
/-- Tonelli's and Shanks's walk: none where it would not end in this many steps -/
def prM (u p : Nat) : Option Nat :=
  match lnrL p 100 2 with
  | none => none
  | some z => prL p 100 (pmod u (((takenOut (p - 1) 2).2 + 1) / 2) p) (pmod u (takenOut (p - 1) 2).2 p) (pmod z (takenOut (p - 1) 2).2 p) (takenOut (p - 1) 2).1
theorem sqN_lt {p : Nat} (h : 0 < p) : ∀ {k t : Nat}, t < p → sqN p k t < p
  | 0, _, ht => ht
  | k + 1, t, _ => show sqN p k (t * t % p) < p from sqN_lt h (k := k) (Nat.mod_lt _ h)
theorem sqN_succ (p : Nat) : ∀ (k t : Nat), sqN p (k + 1) t = sqN p k t * sqN p k t % p
  | 0, _ => rfl
  | k + 1, t => by
    show sqN p (k + 1) (t * t % p) = _
    rw [sqN_succ p k (t * t % p)]
    rfl
theorem lnrL_lt {p : Nat} : ∀ {f x z : Nat}, lnrL p f x = some z → z < x + f
  | 0, _, _, h => by cases h
  | f + 1, x, z, h => by
    unfold lnrL at h
    cases e : resM x p with
    | true =>
      rw [e] at h
      have := lnrL_lt (show lnrL p f (x + 1) = some z from h)
      omega
    | false =>
      rw [e] at h
      have e2 : x = z := Option.some.inj h
      omega
/-! ### residues: what they are -/
def Pr (p : Nat) : Prop := 2 ≤ p ∧ ∀ a b : Int, (p : Int) ∣ a * b → (p : Int) ∣ a ∨ (p : Int) ∣ b
/-- all square roots of z modulo m, each once -/
def Rts (z : Int) (m : Nat) (L : List Int) : Prop := L.Nodup ∧ ∀ x, x ∈ L ↔ (0 ≤ x ∧ x < (m : Int) ∧ (m : Int) ∣ x * x - z)
/-! ### residues: theory -/
theorem Pr.not_one {p : Nat} (h : Pr p) : ¬ (p : Int) ∣ 1 := fun ⟨c, hc⟩ => by
  have h2 := h.1
  have h3 : (p : Int) * c ≤ 0 ∨ (2 : Int) ≤ (p : Int) * c := by
    by_cases z : c ≤ 0
    · have k : (p : Int) * c ≤ (p : Int) * 0 := Int.mul_le_mul_of_nonneg_left z (by omega)
      omega
    · have k : (p : Int) * 1 ≤ (p : Int) * c := Int.mul_le_mul_of_nonneg_left (by omega) (by omega)
      omega
  omega
/-- p ^ k measures a * b, p doesn't measure a -/
theorem Pr.pow_dvd {p : Nat} (h : Pr p) {a b : Int} (ha : ¬ (p : Int) ∣ a) : ∀ {k : Nat}, ((p ^ k : Nat) : Int) ∣ a * b → ((p ^ k : Nat) : Int) ∣ b
  | 0, _ => ⟨b, by rw [Nat.pow_zero]; omega⟩
  | k + 1, hd => by
    have e : ((p ^ (k + 1) : Nat) : Int) = ((p ^ k : Nat) : Int) * (p : Int) := by rw [Nat.pow_succ, Int.natCast_mul]
    have h1 : ((p ^ k : Nat) : Int) ∣ b := h.pow_dvd ha (Int.dvd_trans ⟨p, e⟩ hd)
    obtain ⟨c, hc⟩ := h1
    obtain ⟨m, hm⟩ := hd
    have pk : ((p ^ k : Nat) : Int) ≠ 0 := by
      have : 0 < p ^ k := Nat.pow_pos (by have := h.1; omega)
      omega
    have e2 : ((p ^ k : Nat) : Int) * (a * c) = ((p ^ k : Nat) : Int) * ((p : Int) * m) := by
      rw [hc, e] at hm
      generalize ((p ^ k : Nat) : Int) = P at hm ⊢
      grind
    have e3 : a * c = (p : Int) * m := Int.eq_of_mul_eq_mul_left pk e2
    rcases h.2 a c ⟨m, e3⟩ with z | ⟨c', hc'⟩
    · exact absurd z ha
    · refine ⟨c', ?_⟩
      rw [hc, hc', e, Int.mul_assoc]
/-- p ^ (2 * h) measures x * x -/
theorem Pr.sq_dvd {p : Nat} (h : Pr p) : ∀ {k : Nat} {x : Int}, ((p ^ (2 * k) : Nat) : Int) ∣ x * x → ((p ^ k : Nat) : Int) ∣ x
  | 0, x, _ => ⟨x, by rw [Nat.pow_zero]; omega⟩
  | k + 1, x, ⟨m, hm⟩ => by
    have e : ((p ^ (2 * (k + 1)) : Nat) : Int) = (p : Int) * (p : Int) * ((p ^ (2 * k) : Nat) : Int) := by
      rw [Nat.mul_add, Nat.pow_add, Int.natCast_mul]
      have e2 : ((p ^ (2 * 1) : Nat) : Int) = (p : Int) * (p : Int) := by
        rw [Nat.pow_succ, Nat.pow_one, Int.natCast_mul]
      rw [e2, Int.mul_comm]
    have p0 : (p : Int) ≠ 0 := by
      have := h.1
      omega
    have hp : (p : Int) ∣ x := by
      rcases h.2 x x ⟨(p : Int) * ((p ^ (2 * k) : Nat) : Int) * m, by rw [hm, e]; grind⟩ with z | z <;> exact z
    obtain ⟨y, rfl⟩ := hp
    have e3 : y * y = ((p ^ (2 * k) : Nat) : Int) * m := by
      have e4 : (p : Int) * ((p : Int) * (y * y)) = (p : Int) * ((p : Int) * (((p ^ (2 * k) : Nat) : Int) * m)) := by
        rw [e] at hm
        generalize ((p ^ (2 * k) : Nat) : Int) = P at hm ⊢
        grind
      exact Int.eq_of_mul_eq_mul_left p0 (Int.eq_of_mul_eq_mul_left p0 e4)
    obtain ⟨c, hc⟩ := h.sq_dvd (k := k) ⟨m, e3⟩
    refine ⟨c, ?_⟩
    rw [hc, Nat.pow_succ, Int.natCast_mul]
    generalize ((p ^ k : Nat) : Int) = P
    grind
/-- what is asked of an odd prime -/
structure PrimeOk (p : Nat) : Prop where
  pr : Pr p
  odd : p % 2 = 1
  euler : ∀ u, 0 < u → u < p → (resM u p = true ↔ ∃ x, x < p ∧ x * x % p = u)
  root : ∀ u, 0 < u → u < p → resM u p = true → ∃ r, prM u p = some r ∧ r < p ∧ r * r % p = u
theorem dvd_sub_mod {p : Nat} (hp : 0 < p) (z : Int) : (p : Int) ∣ z - ((z % (p : Int)).toNat : Int) := by
  have h0 := Int.emod_nonneg z (show (p : Int) ≠ 0 by omega)
  rw [Int.toNat_of_nonneg h0]
  exact ⟨z / (p : Int), by have := Int.mul_ediv_add_emod z (p : Int); omega⟩
/-- the step of Hensel's way -/
theorem lift_step {P p r u inv c k v : Int} (h1 : r * r - u = P * c) (h2 : inv * (2 * r) - 1 = p * k) (h3 : P = p * v) : ∃ m, (r - (r * r - u) * inv) * (r - (r * r - u) * inv) - u = P * p * m := by
  refine ⟨-(c * k) + v * c * c * inv * inv, ?_⟩
  have e : (r - (r * r - u) * inv) * (r - (r * r - u) * inv) - u = (r * r - u) - (r * r - u) * (inv * (2 * r)) + (r * r - u) * (r * r - u) * (inv * inv) := by grind
  rw [e, h1]
  have e2 : inv * (2 * r) = 1 + p * k := by omega
  rw [e2, h3]
  grind
/-- all roots of a number that p doesn't measure, from one -/
theorem unit_rts {p k : Nat} {u r : Int} (h : Pr p) (h2 : ¬ (p : Int) ∣ 2 * r) (hr : ((p ^ (k + 1) : Nat) : Int) ∣ r * r - u) (r0 : 0 ≤ r) (r1 : r < ((p ^ (k + 1) : Nat) : Int)) : Rts u (p ^ (k + 1)) [r, ((p ^ (k + 1) : Nat) : Int) - r] := by
  have pP : (p : Int) ∣ ((p ^ (k + 1) : Nat) : Int) := ⟨((p ^ k : Nat) : Int), by rw [Nat.pow_succ, Int.natCast_mul, Int.mul_comm]⟩
  have hrn : ¬ (p : Int) ∣ r := fun ⟨c, hc⟩ => h2 ⟨2 * c, by rw [hc]; grind⟩
  have rne : r ≠ 0 := fun e => hrn ⟨0, by omega⟩
  have pd : ∀ {k : Nat} {a b : Int}, ¬ (p : Int) ∣ a → ((p ^ k : Nat) : Int) ∣ a * b → ((p ^ k : Nat) : Int) ∣ b := fun ha hd => h.pow_dvd ha hd
  have pd1 := @pd (k + 1)
  unfold Rts
  generalize ((p ^ (k + 1) : Nat) : Int) = P at hr r1 pP pd1 ⊢
  have P0 : 0 < P := by omega
  refine ⟨?_, fun x => ⟨fun hx => ?_, fun ⟨x0, x1, hx⟩ => ?_⟩⟩
  · refine List.nodup_cons.mpr ⟨fun hm => ?_, List.nodup_cons.mpr ⟨List.not_mem_nil, List.nodup_nil⟩⟩
    have e := List.mem_singleton.mp hm
    obtain ⟨c, hc⟩ := pP
    exact h2 ⟨c, by omega⟩
  · rcases List.mem_cons.mp hx with e | hx
    · subst e
      exact ⟨r0, r1, hr⟩
    · rw [List.mem_singleton] at hx
      subst hx
      refine ⟨by omega, by omega, ?_⟩
      obtain ⟨c, hc⟩ := hr
      exact ⟨P - 2 * r + c, by grind⟩
  · have hd : P ∣ (x - r) * (x + r) := by
      obtain ⟨c, hc⟩ := hr
      obtain ⟨c', hc'⟩ := hx
      exact ⟨c' - c, by grind⟩
    by_cases z : (p : Int) ∣ x - r
    · have z2 : ¬ (p : Int) ∣ x + r := fun ⟨b, hb⟩ => by
        obtain ⟨a, ha⟩ := z
        exact h2 ⟨b - a, by rw [Int.mul_sub]; omega⟩
      have hd2 : P ∣ (x + r) * (x - r) := by rw [Int.mul_comm]; exact hd
      obtain ⟨c, hc⟩ := pd1 z2 hd2
      have c0 : c = 0 := by
        by_cases a : c ≤ -1
        · have := Int.mul_le_mul_of_nonneg_left a (show 0 ≤ P by omega)
          omega
        · by_cases b : 1 ≤ c
          · have := Int.mul_le_mul_of_nonneg_left b (show 0 ≤ P by omega)
            omega
          · omega
      rw [c0, Int.mul_zero] at hc
      rw [show x = r by omega]
      exact List.mem_cons_self
    · obtain ⟨c, hc⟩ := pd1 z hd
      have c0 : c = 1 := by
        by_cases a : c ≤ 0
        · have := Int.mul_le_mul_of_nonneg_left a (show 0 ≤ P by omega)
          omega
        · by_cases b : 2 ≤ c
          · have := Int.mul_le_mul_of_nonneg_left b (show 0 ≤ P by omega)
            omega
          · omega
      rw [c0, Int.mul_one] at hc
      rw [show x = P - r by omega]
      exact List.mem_cons_of_mem _ List.mem_cons_self
/-! ### list(range(a, b, c)) -/
section
variable {X : Cx} {a b c : Expr} {ta tb tc : TE}
def tLstRg3 (ta tb tc : TE) : TE := fun σ H Q => ta σ H fun x H1 => tb σ H1 fun y H2 => tc σ H2 fun z H3 => ∃ (i j k : Int) (n : Nat), x = .int i ∧ y = .int j ∧ z = .int k ∧ RgC i j k n ∧ n ≤ 2 ^ 24 ∧ ∀ q, H3 q = none → Q (.ref q) (upd H3 q (.lst ((List.range n).map fun (t : Nat) => V.int (i + t * k))))
theorem pe_listRg3 {p p2 pos pos2 : Pos} (hc : X.calm = true) (hg : Gl X "list") (hm : X.mg "list" = none) (hg2 : Gl X "range") (hm2 : X.mg "range" = none) (ha : PE X a ta) (hb : PE X b tb) (hcc : PE X c tc)
    (na : starEach [.Call (.Name "range" p2) [a, b, c] [] pos2] X.env = (false, eval (.Call (.Name "range" p2) [a, b, c] [] pos2) X.env) :: starEach [] X.env := by rfl)
    (n1 : starEach [a, b, c] X.env = (false, eval a X.env) :: starEach [b, c] X.env := by rfl) (n2 : starEach [b, c] X.env = (false, eval b X.env) :: starEach [c] X.env := by rfl) (n3 : starEach [c] X.env = (false, eval c X.env) :: starEach [] X.env := by rfl)
    (hp1 : (backTo pos2 (starEach [b, c] X.env)).any (·.1) = false := by rfl) (hp2 : (backTo pos2 (starEach [c] X.env)).any (·.1) = false := by rfl) :
    PE X (.Call (.Name "list" p) [.Call (.Name "range" p2) [a, b, c] [] pos2] [] pos) (tLstRg3 ta tb tc) := by
  refine ⟨fun pins s σ H Q I h => ?_⟩
  refine Call_ (ld_blt I hg hm boot_list (PyProof.Rows.callWith_type1 (args_cons (thn (Q := fun x s' => ∃ r i j k t u v H3, x = .ref r ∧ IsRange s'.heap r i j k t u v ∧ Inv X pins σ H3 s' ∧ ∃ n, RgC i j k n ∧ n ≤ 2 ^ 24 ∧ ∀ q, H3 q = none → Q (.ref q) (upd H3 q (.lst ((List.range n).map fun (t : Nat) => V.int (i + t * k))))) ?_ fun x s1 ⟨r, i, j, k, t, u, v, H1, ex, hr, I1, n, ok, hn, q⟩ => args_nil ?_) na) na))
  · refine Call_ (ld_blt I hg2 hm2 boot_range (PyProof.Rows.callWith_type1 (args_cons (thn (ha.run pins s σ H _ I h) fun v1 s1 ⟨x, H1, I1, r1, q1⟩ => args_cons (thn (hb.run pins s1 σ H1 _ I1 q1) fun v2 s2 ⟨y, H2, I2, r2, q2⟩ => one_arg hcc I2 q2 (fun v3 s3 z H3 I3 r3 q => ?_) n3) n2) n1) n1 hp1))
    obtain ⟨i, j, k, n, rfl, rfl, rfl, ok, hn, q⟩ := q
    obtain ⟨t, rfl⟩ := r1
    obtain ⟨t', rfl⟩ := r2
    obtain ⟨t'', rfl⟩ := r3
    exact call_range_3 ok.1 ⟨_, i, j, k, _, _, _, H3, rfl, IsRange.new _ _ _ _ _ _ _, I3.kept fun b u e => Heap.get?_push_of_some _ e, n, ok, hn, q⟩ (.inl (PyProof.noPylong_small ok.2.1))
  · subst ex
    refine call_list_range (n := n) (I1.ok.hd hc) hr ok.2.2.1 ok.2.2.2 hn fun h' tk acc c' hk e' hi => ?_
    have hv : Vals ((List.range n).map fun (t : Nat) => V.int (i + t * k)) acc.toList := by
      have e : acc.toList.length = n := by rw [Array.length_toList]; exact hi.1
      rw [← e]
      refine vals_of_get acc.toList _ fun m w hm => ?_
      obtain ⟨t, rfl⟩ := hi.2 m w (by rw [← hm, Array.getElem?_toList])
      exact ⟨t, rfl⟩
    refine ⟨.ref s1.heap.objs.size, upd H1 s1.heap.objs.size (.lst ((List.range n).map fun (t : Nat) => V.int (i + t * k))), I1.laid hk (Nat.le_refl _) (show ObjOk X.prog X.w _ _ _ (.lst _) from ⟨?_, acc.toList, c', hv, ?_⟩), rfl, q _ (I1.hok.fresh (Nat.le_refl _))⟩
    · rw [List.length_map, List.length_range, sizeLine_eq]
      omega
    · rw [Array.toArray_toList]
      exact e'
end
theorem rg_mul {c n : Nat} (hc : 0 < c) (h1 : c < 1073741824) (h : c * n < 2 ^ 60) : RgC 0 ((c * n : Nat) : Int) (c : Int) n := by
  have h' : c * n < 1152921504606846976 := h
  have e : Builtin.Range.rangeSize 0 ((c * n : Nat) : Int) (c : Int) = (n : Int) := by
    rw [PyProof.Rows.rangeSize_pos (by omega) (by omega)]
    have e1 : ((c * n : Nat) : Int) + (c : Int) - 1 = ((c : Int) - 1) + (n : Int) * (c : Int) := by rw [Int.natCast_mul, Int.mul_comm (c : Int)]; omega
    rw [e1, Int.add_mul_ediv_right _ _ (by omega), Int.ediv_eq_zero_of_lt (by omega) (by omega)]
    omega
  have hn : n ≤ c * n := Nat.le_mul_of_pos_left n hc
  refine ⟨by omega, by omega, ?_, e⟩
  unfold Builtin.Range.small
  rw [e]
  have e2 : (c : Int) > 0 := by omega
  simp only [Builtin.Range.rangeFitsLong, Bool.and_eq_true, Bool.or_eq_true, decide_eq_true_eq, beq_iff_eq, e2, if_true]
  have e3 : ((c * n : Nat) : Int) = (c : Int) * (n : Int) := Int.natCast_mul c n
  refine ⟨?_, ?_⟩
  all_goals first | omega | (split <;> omega) | skip
/-! ### lists over two fors -/
theorem mod_sq {M x z : Int} (h : M ∣ x * x - z) : M ∣ x % M * (x % M) - z := by
  obtain ⟨c, hc⟩ := h
  have e := Int.mul_ediv_add_emod x M
  refine ⟨c - 2 * (x / M) * (x % M) - M * (x / M) * (x / M), ?_⟩
  generalize x / M = q at e ⊢
  generalize x % M = r at e ⊢
  subst e
  grind
theorem nodup_map_on {α β : Type} {f : α → β} : ∀ {l : List α}, l.Nodup → (∀ a ∈ l, ∀ b ∈ l, f a = f b → a = b) → (l.map f).Nodup
  | [], _, _ => List.nodup_nil
  | x :: r, h, k => by
    rw [List.nodup_cons] at h
    rw [List.map_cons, List.nodup_cons]
    refine ⟨fun hm => ?_, nodup_map_on h.2 fun a ha b hb => k a (List.mem_cons_of_mem _ ha) b (List.mem_cons_of_mem _ hb)⟩
    obtain ⟨y, hy, e⟩ := List.mem_map.mp hm
    have := k y (List.mem_cons_of_mem _ hy) x List.mem_cons_self e
    subst this
    exact h.1 hy
theorem nodup2 {α β γ : Type} {F : α → β → γ} {L2 : List β} (h2 : L2.Nodup) : ∀ {L1 : List α}, L1.Nodup → (∀ a ∈ L1, ∀ b ∈ L2, ∀ a' ∈ L1, ∀ b' ∈ L2, F a b = F a' b' → a = a' ∧ b = b') → (L1.flatMap fun a => L2.map (F a)).Nodup
  | [], _, _ => List.nodup_nil
  | x :: r, h, k => by
    rw [List.nodup_cons] at h
    rw [List.flatMap_cons, List.nodup_append]
    refine ⟨nodup_map_on h2 fun b hb b' hb' e => (k x List.mem_cons_self b hb x List.mem_cons_self b' hb' e).2, nodup2 h2 h.2 fun a ha b hb a' ha' b' hb' e => k a (List.mem_cons_of_mem _ ha) b hb a' (List.mem_cons_of_mem _ ha') b' hb' e, fun c hc c' hc' e => ?_⟩
    obtain ⟨b, hb, rfl⟩ := List.mem_map.mp hc
    obtain ⟨a', ha', hm⟩ := List.mem_flatMap.mp hc'
    obtain ⟨b', hb', rfl⟩ := List.mem_map.mp hm
    have := (k x List.mem_cons_self b hb a' (List.mem_cons_of_mem _ ha') b' hb' e).1
    subst this
    exact h.1 ha'
theorem len2 {α β γ : Type} {F : α → β → γ} {L2 : List β} : ∀ {L1 : List α}, (L1.flatMap fun a => L2.map (F a)).length = L1.length * L2.length
  | [] => by simp
  | x :: r => by
    rw [List.flatMap_cons, List.length_append, List.length_map, len2 (L1 := r), List.length_cons, Nat.succ_mul]
    omega
/-! ### roots modulo a power of a prime -/
theorem toL_spec {p : Nat} (hp : 2 ≤ p) : ∀ {f n k : Nat}, 0 < n → n < 2 ^ f → ∃ j, (toL p f n k).1 = k + j ∧ n = p ^ j * (toL p f n k).2 ∧ (toL p f n k).2 % p ≠ 0
  | 0, n, k, h0, h1 => by rw [Nat.pow_zero] at h1; omega
  | f + 1, n, k, h0, h1 => by
    unfold toL
    by_cases e : n % p = 0
    · rw [bifT (beqT e)]
      have hle : p ≤ n := Nat.le_of_dvd h0 (Nat.dvd_of_mod_eq_zero e)
      have d0 : 0 < n / p := Nat.div_pos hle (by omega)
      have d1 : n / p ≤ n / 2 := Nat.div_le_div_left hp (by decide)
      have e3 : (2 : Nat) ^ (f + 1) = 2 ^ f * 2 := Nat.pow_succ _ _
      obtain ⟨j, a, b, c⟩ := toL_spec hp (f := f) (n := n / p) (k := k + 1) d0 (by omega)
      refine ⟨j + 1, by omega, ?_, c⟩
      have e4 : n = p * (n / p) := (Nat.mul_div_cancel' (Nat.dvd_of_mod_eq_zero e)).symm
      rw [Nat.pow_succ, Nat.mul_comm (p ^ j) p, Nat.mul_assoc, ← b]
      exact e4
    · rw [bifF (beqF e)]
      exact ⟨0, rfl, by simp, e⟩
theorem rts_congr {z n : Int} {M : Nat} {L : List Int} (h : (M : Int) ∣ z - n) (R : Rts n M L) : Rts z M L := by
  refine ⟨R.1, fun x => (R.2 x).trans ⟨fun ⟨a, b, c⟩ => ⟨a, b, ?_⟩, fun ⟨a, b, c⟩ => ⟨a, b, ?_⟩⟩⟩
  · have e : x * x - z = (x * x - n) - (z - n) := by omega
    rw [e]
    exact Int.dvd_sub c h
  · have e : x * x - n = (x * x - z) + (z - n) := by omega
    rw [e]
    exact Int.dvd_add c h
theorem pow_split {p a b c : Nat} (h : a = b + c) : ((p ^ a : Nat) : Int) = ((p ^ b : Nat) : Int) * ((p ^ c : Nat) : Int) := by rw [h, Nat.pow_add, Int.natCast_mul]
/-- 0 modulo p ^ k -/
theorem rts_zero {p k : Nat} (h : Pr p) : Rts 0 (p ^ k) ((List.range (p ^ (k / 2))).map fun (t : Nat) => (0 : Int) + (t : Int) * ((p ^ (k - k / 2) : Nat) : Int)) := by
  have p2 := h.1
  have hM := pow_split (p := p) (a := k) (b := k / 2) (c := k - k / 2) (by omega)
  have s0 : 0 < p ^ (k - k / 2) := Nat.pow_pos (by omega)
  have a0 : 0 < p ^ (k / 2) := Nat.pow_pos (by omega)
  have hd : ∀ x : Int, ((p ^ k : Nat) : Int) ∣ x * x → ((p ^ (k - k / 2) : Nat) : Int) ∣ x := fun x hx => by
    by_cases ev : k % 2 = 0
    · have e : k = 2 * (k - k / 2) := by omega
      refine h.sq_dvd (k := k - k / 2) ?_
      rw [← e]
      exact hx
    · obtain ⟨y, hy⟩ := h.sq_dvd (k := k / 2) (x := x) (Int.dvd_trans ⟨(p : Int), by rw [← Int.natCast_mul, ← Nat.pow_succ]; congr 2; omega⟩ hx)
      have e1 : ((p ^ k : Nat) : Int) = ((p ^ (k / 2) : Nat) : Int) * ((p ^ (k / 2) : Nat) : Int) * (p : Int) := by
        rw [← Int.natCast_mul, ← Int.natCast_mul, ← Nat.pow_add, ← Nat.pow_succ]
        congr 2
        omega
      obtain ⟨c, hc⟩ := hx
      have an : ((p ^ (k / 2) : Nat) : Int) ≠ 0 := by omega
      have e2 : y * y = (p : Int) * c := by
        rw [hy, e1] at hc
        generalize ((p ^ (k / 2) : Nat) : Int) = A at hc an
        have e3 : A * (A * (y * y)) = A * (A * ((p : Int) * c)) := by grind
        exact Int.eq_of_mul_eq_mul_left an (Int.eq_of_mul_eq_mul_left an e3)
      have py : (p : Int) ∣ y := by rcases h.2 y y ⟨c, e2⟩ with z | z <;> exact z
      obtain ⟨w, hw⟩ := py
      refine ⟨w, ?_⟩
      rw [hy, hw, ← Int.mul_assoc, ← Int.natCast_mul, ← Nat.pow_succ]
      congr 3
      omega
  have hsq : ((p ^ k : Nat) : Int) ∣ ((p ^ (k - k / 2) : Nat) : Int) * ((p ^ (k - k / 2) : Nat) : Int) := by
    refine ⟨((p ^ (k - k / 2 - k / 2) : Nat) : Int), ?_⟩
    rw [← Int.natCast_mul, ← Int.natCast_mul, ← Nat.pow_add, ← Nat.pow_add]
    congr 2
    omega
  generalize p ^ k = M at hM hd hsq ⊢
  generalize p ^ (k - k / 2) = S at hM hd hsq s0 ⊢
  generalize p ^ (k / 2) = A at hM a0 ⊢
  have Sn : (S : Int) ≠ 0 := by omega
  refine ⟨nodup_map_on List.nodup_range fun a _ b _ e => ?_, fun x => ⟨fun hx => ?_, fun ⟨x0, x1, hx⟩ => ?_⟩⟩
  · have e2 : (a : Int) * (S : Int) = (b : Int) * (S : Int) := by omega
    have := Int.eq_of_mul_eq_mul_right Sn e2
    omega
  · obtain ⟨t, ht, rfl⟩ := List.mem_map.mp hx
    have ht2 := List.mem_range.mp ht
    refine ⟨?_, ?_, ?_⟩
    · have := Int.mul_nonneg (show (0 : Int) ≤ (t : Int) by omega) (show (0 : Int) ≤ (S : Int) by omega)
      omega
    · have := Int.mul_lt_mul_of_pos_right (show (t : Int) < (A : Int) by omega) (show (0 : Int) < (S : Int) by omega)
      omega
    · obtain ⟨c, hc⟩ := hsq
      exact ⟨(t : Int) * (t : Int) * c, by grind⟩
  · obtain ⟨c, hc⟩ := hd x (by rw [show x * x = x * x - 0 by omega]; exact hx)
    have c0 : 0 ≤ c := by
      by_cases z : 0 ≤ c
      · exact z
      · have := Int.mul_le_mul_of_nonneg_left (show c ≤ -1 by omega) (show (0 : Int) ≤ (S : Int) by omega)
        omega
    have c1 : c < (A : Int) := by
      by_cases z : c < (A : Int)
      · exact z
      · have := Int.mul_le_mul_of_nonneg_left (show (A : Int) ≤ c by omega) (show (0 : Int) ≤ (S : Int) by omega)
        have e := Int.mul_comm (S : Int) (A : Int)
        omega
    refine List.mem_map.mpr ⟨c.toNat, List.mem_range.mpr (by omega), ?_⟩
    rw [Int.toNat_of_nonneg c0, hc, Int.mul_comm]
    omega
/-- p ^ j * w, j odd: none -/
theorem rts_odd {p k j w : Nat} (h : Pr p) (hj : j % 2 = 1) (hk : j < k) (hw : w % p ≠ 0) : Rts ((p ^ j * w : Nat) : Int) (p ^ k) [] := by
  have p2 := h.1
  refine ⟨List.nodup_nil, fun x => ⟨(fun hx => nomatch hx), fun ⟨x0, x1, c, hx⟩ => ?_⟩⟩
  exfalso
  obtain ⟨i, rfl⟩ : ∃ i, j = 2 * i + 1 := ⟨j / 2, by omega⟩
  have e1 := pow_split (p := p) (a := k) (b := 2 * i) (c := k - 2 * i) (by omega)
  have e2 := pow_split (p := p) (a := 2 * i + 1) (b := 2 * i) (c := 1) rfl
  have e3 := pow_split (p := p) (a := k - 2 * i) (b := 2) (c := k - 2 * i - 2) (by omega)
  have e4 : ((p ^ 2 : Nat) : Int) = (p : Int) * (p : Int) := by rw [← Int.natCast_mul]; congr 1; rw [Nat.pow_succ, Nat.pow_one]
  rw [Nat.pow_one] at e2
  rw [Int.natCast_mul, e1, e2, e3, e4] at hx
  obtain ⟨y, hy⟩ := h.sq_dvd (k := i) (x := x) ⟨(p : Int) * (w : Int) + (p : Int) * (p : Int) * ((p ^ (k - 2 * i - 2) : Nat) : Int) * c, by
    generalize ((p ^ (2 * i) : Nat) : Int) = A at hx ⊢
    generalize ((p ^ (k - 2 * i - 2) : Nat) : Int) = B at hx ⊢
    grind⟩
  have e5 := pow_split (p := p) (a := 2 * i) (b := i) (c := i) (by omega)
  have an : ((p ^ i : Nat) : Int) ≠ 0 := by
    have : 0 < p ^ i := Nat.pow_pos (by omega)
    omega
  rw [hy, e5] at hx
  generalize ((p ^ i : Nat) : Int) = A at hx an
  generalize ((p ^ (k - 2 * i - 2) : Nat) : Int) = B at hx
  have e6 : A * (A * (y * y - (p : Int) * (w : Int))) = A * (A * ((p : Int) * (p : Int) * B * c)) := by grind
  have e7 := Int.eq_of_mul_eq_mul_left an (Int.eq_of_mul_eq_mul_left an e6)
  have py : (p : Int) ∣ y := by rcases h.2 y y ⟨(w : Int) + (p : Int) * B * c, by grind⟩ with z | z <;> exact z
  obtain ⟨v, hv⟩ := py
  have pn : (p : Int) ≠ 0 := by omega
  have e8 : (w : Int) = (p : Int) * (v * v - B * c) := by
    refine Int.eq_of_mul_eq_mul_left pn ?_
    rw [hv] at e7
    grind
  have e9 : (w : Int) % (p : Int) = 0 := by rw [e8]; exact Int.mul_emod_right _ _
  rw [← Int.natCast_emod] at e9
  omega
/-- p ^ (2 * i) * w -/
theorem rts_even {p k i w : Nat} {ns : List Int} (h : Pr p) (hk : 2 * i < k) (R : Rts (w : Int) (p ^ (k - 2 * i)) ns) : Rts ((p ^ (2 * i) * w : Nat) : Int) (p ^ k) (ns.flatMap fun y => (List.range (p ^ i)).map fun (t : Nat) => ((p ^ i : Nat) : Int) * (y + ((p ^ (k - 2 * i) : Nat) : Int) * (t : Int))) := by
  have p2 := h.1
  have e1 := pow_split (p := p) (a := k) (b := 2 * i) (c := k - 2 * i) (by omega)
  have e2 := pow_split (p := p) (a := 2 * i) (b := i) (c := i) (by omega)
  have hsq := fun (x : Int) (hx : ((p ^ (2 * i) : Nat) : Int) ∣ x * x) => h.sq_dvd (k := i) hx
  have a0 : 0 < p ^ i := Nat.pow_pos (by omega)
  have s0 : 0 < p ^ (k - 2 * i) := Nat.pow_pos (by omega)
  rw [e2] at e1 hsq
  rw [Int.natCast_mul, e2]
  generalize p ^ k = M at e1 ⊢
  generalize p ^ (k - 2 * i) = S at e1 s0 R ⊢
  generalize p ^ i = A at e1 hsq a0 ⊢
  have An : (A : Int) ≠ 0 := by omega
  obtain ⟨nd, mem⟩ := R
  have inj : ∀ y t y' t' : Int, 0 ≤ y → y < S → 0 ≤ y' → y' < S → (A : Int) * (y + (S : Int) * t) = (A : Int) * (y' + (S : Int) * t') → y = y' ∧ t = t' := by
    intro y t y' t' h1 h2 h3 h4 e
    have e3 := Int.eq_of_mul_eq_mul_left An e
    have e4 : (S : Int) * (t - t') = y' - y := by rw [Int.mul_sub]; omega
    have tt : t - t' = 0 := by
      by_cases a : t - t' ≤ -1
      · have := Int.mul_le_mul_of_nonneg_left a (show (0 : Int) ≤ (S : Int) by omega)
        omega
      · by_cases b : 1 ≤ t - t'
        · have := Int.mul_le_mul_of_nonneg_left b (show (0 : Int) ≤ (S : Int) by omega)
          omega
        · omega
    rw [tt, Int.mul_zero] at e4
    omega
  refine ⟨nodup2 List.nodup_range nd fun y hy t _ y' hy' t' _ e => ?_, fun x => ⟨fun hx => ?_, fun ⟨x0, x1, hx⟩ => ?_⟩⟩
  · have b1 := (mem y).mp hy
    have b2 := (mem y').mp hy'
    have := inj y t y' t' b1.1 b1.2.1 b2.1 b2.2.1 e
    omega
  · obtain ⟨y, hy, hm⟩ := List.mem_flatMap.mp hx
    obtain ⟨t, ht, rfl⟩ := List.mem_map.mp hm
    have ht2 := List.mem_range.mp ht
    obtain ⟨b1, b2, c, b3⟩ := (mem y).mp hy
    have z1 : 0 ≤ (S : Int) * (t : Int) := Int.mul_nonneg (by omega) (by omega)
    have z2 : (S : Int) * (t : Int) ≤ (S : Int) * ((A : Int) - 1) := Int.mul_le_mul_of_nonneg_left (by omega) (by omega)
    rw [Int.mul_sub, Int.mul_one] at z2
    refine ⟨Int.mul_nonneg (by omega) (by omega), ?_, ?_⟩
    · rw [e1, Int.mul_assoc]
      refine Int.mul_lt_mul_of_pos_left ?_ (by omega)
      have := Int.mul_comm (S : Int) (A : Int)
      omega
    · refine ⟨c + 2 * y * (t : Int) + (S : Int) * (t : Int) * (t : Int), ?_⟩
      rw [e1]
      clear z1 z2 hsq inj
      grind
  · obtain ⟨c, hc⟩ := hx
    obtain ⟨y, hy⟩ := hsq x ⟨(w : Int) + (S : Int) * c, by rw [e1] at hc; grind⟩
    have e5 : y * y - (w : Int) = (S : Int) * c := by
      rw [hy, e1] at hc
      have e6 : (A : Int) * ((A : Int) * (y * y - (w : Int))) = (A : Int) * ((A : Int) * ((S : Int) * c)) := by
        clear hsq inj
        grind
      exact Int.eq_of_mul_eq_mul_left An (Int.eq_of_mul_eq_mul_left An e6)
    have y0 : 0 ≤ y := by
      by_cases z : 0 ≤ y
      · exact z
      · have := Int.mul_le_mul_of_nonneg_left (show y ≤ -1 by omega) (show (0 : Int) ≤ (A : Int) by omega)
        omega
    have y1 : y < (A : Int) * (S : Int) := by
      by_cases z : y < (A : Int) * (S : Int)
      · exact z
      · have := Int.mul_le_mul_of_nonneg_left (show (A : Int) * (S : Int) ≤ y by omega) (show (0 : Int) ≤ (A : Int) by omega)
        rw [← Int.mul_assoc] at this
        omega
    have em := Int.mul_ediv_add_emod y (S : Int)
    have m0 := Int.emod_nonneg y (show (S : Int) ≠ 0 by omega)
    have m1 := Int.emod_lt_of_pos y (show (0 : Int) < (S : Int) by omega)
    have d0 : 0 ≤ y / (S : Int) := Int.ediv_nonneg y0 (by omega)
    have d1 : y / (S : Int) < (A : Int) := Int.ediv_lt_of_lt_mul (by omega) y1
    refine List.mem_flatMap.mpr ⟨y % (S : Int), (mem _).mpr ⟨m0, m1, mod_sq ⟨c, e5⟩⟩, List.mem_map.mpr ⟨(y / (S : Int)).toNat, List.mem_range.mpr (by omega), ?_⟩⟩
    rw [Int.toNat_of_nonneg d0, hy]
    congr 1
    omega
/-! ### what is known of a modulus: the program's prime parts, and that they are primes -/
def prodP : List (Nat × Nat) → Nat
  | [] => 1
  | (p, k) :: r => p ^ k * prodP r
def lenP : List (Nat × Nat) → Nat
  | [] => 1
  | (p, k) :: r => 4 * p ^ (k / 2) * lenP r
/-- each part: a prime with its exponent, without a common measure with what stood ahead of it -/
def FacP : Nat → List (Nat × Nat) → Prop
  | _, [] => True
  | acc, (p, k) :: r => (p = 2 ∨ PrimeOk p) ∧ 1 ≤ k ∧ k < 49 ∧ p ^ k ≤ 100000000 ∧ Nat.gcd acc (p ^ k) = 1 ∧ FacP (acc * p ^ k) r
structure FacOk (m : Nat) (l : List (Nat × Nat)) : Prop where
  pp : ppM m = some l
  prod : prodP l = m
  fac : FacP 1 l
  len : lenP l ≤ 16000000
/-! ### two moduli without a common measure -/
theorem cop_dvd {a b u v x : Int} (h : u * a + v * b = 1) (ha : a ∣ x) (hb : b ∣ x) : a * b ∣ x := by
  obtain ⟨c, hc⟩ := ha
  obtain ⟨d, hd⟩ := hb
  refine ⟨u * d + v * c, ?_⟩
  have e : x = x * (u * a + v * b) := by rw [h, Int.mul_one]
  rw [e]
  have e1 : x * (u * a) = a * b * (u * d) := by
    have : x * (u * a) = (b * d) * (u * a) := by rw [← hd]
    rw [this]
    grind
  have e2 : x * (v * b) = a * b * (v * c) := by
    have : x * (v * b) = (a * c) * (v * b) := by rw [← hc]
    rw [this]
    grind
  rw [Int.mul_add, e1, e2]
  grind
theorem rts_join {z u v : Int} {m1 m2 : Nat} {L1 L2 : List Int} (h1 : 0 < m1) (h2 : 0 < m2) (h : u * (m1 : Int) + v * (m2 : Int) = 1) (R1 : Rts z m1 L1) (R2 : Rts z m2 L2) :
    Rts z (m1 * m2) (L1.flatMap fun r => L2.map fun o => r + (m1 : Int) * ((o - r) * u % (m2 : Int))) := by
  have M : ((m1 * m2 : Nat) : Int) = (m1 : Int) * (m2 : Int) := Int.natCast_mul _ _
  have p1 : (0 : Int) < (m1 : Int) := by omega
  have p2 : (0 : Int) < (m2 : Int) := by omega
  obtain ⟨n1, k1⟩ := R1
  obtain ⟨n2, k2⟩ := R2
  unfold Rts
  rw [M]
  generalize (m1 : Int) = a at *
  generalize (m2 : Int) = b at *
  -- the joined number, modulo a and b
  have ja : ∀ r o : Int, a ∣ (r + a * ((o - r) * u % b)) - r := fun r o => ⟨(o - r) * u % b, by omega⟩
  have jb : ∀ r o : Int, b ∣ (r + a * ((o - r) * u % b)) - o := fun r o => by
    have e := Int.mul_ediv_add_emod ((o - r) * u) b
    generalize (o - r) * u % b = y at e ⊢
    generalize (o - r) * u / b = q at e
    refine ⟨(r - o) * v - a * q, ?_⟩
    have e2 : y = (o - r) * u - b * q := by omega
    rw [e2]
    clear e e2
    grind
  have jr : ∀ r o : Int, 0 ≤ r → r < a → 0 ≤ r + a * ((o - r) * u % b) ∧ r + a * ((o - r) * u % b) < a * b := fun r o r0 r1 => by
    have y0 := Int.emod_nonneg ((o - r) * u) (show b ≠ 0 by omega)
    have y1 := Int.emod_lt_of_pos ((o - r) * u) p2
    generalize (o - r) * u % b = y at y0 y1 ⊢
    have z0 := Int.mul_nonneg (show 0 ≤ a by omega) y0
    have z1 := Int.mul_le_mul_of_nonneg_left (show y ≤ b - 1 by omega) (show 0 ≤ a by omega)
    rw [Int.mul_sub, Int.mul_one] at z1
    omega
  have small : ∀ {m x y : Int}, 0 < m → 0 ≤ x → x < m → 0 ≤ y → y < m → m ∣ x - y → x = y := fun {m x y} hm x0 x1 y0 y1 ⟨c, hc⟩ => by
    have c0 : c = 0 := by
      by_cases s : c ≤ -1
      · have := Int.mul_le_mul_of_nonneg_left s (show 0 ≤ m by omega)
        omega
      · by_cases t : 1 ≤ c
        · have := Int.mul_le_mul_of_nonneg_left t (show 0 ≤ m by omega)
          omega
        · omega
    rw [c0, Int.mul_zero] at hc
    omega
  have cong : ∀ {m x y : Int}, m ∣ x - y → (m ∣ x * x - z ↔ m ∣ y * y - z) := fun {m x y} ⟨c, hc⟩ => by
    have e : x * x - z = (y * y - z) + m * (c * (x + y)) := by
      have : x * x - y * y = (x - y) * (x + y) := by grind
      rw [hc] at this
      grind
    rw [e]
    exact ⟨fun d => by
      have := Int.dvd_sub d ⟨c * (x + y), rfl⟩
      rw [Int.add_sub_cancel] at this
      exact this, fun d => Int.dvd_add d ⟨_, rfl⟩⟩
  refine ⟨nodup2 n2 n1 fun r hr o ho r' hr' o' ho' e => ?_, fun x => ⟨fun hx => ?_, fun ⟨x0, x1, hx⟩ => ?_⟩⟩
  · obtain ⟨a1, a2, _⟩ := (k1 r).mp hr
    obtain ⟨b1, b2, _⟩ := (k1 r').mp hr'
    obtain ⟨c1, c2, _⟩ := (k2 o).mp ho
    obtain ⟨d1, d2, _⟩ := (k2 o').mp ho'
    have q1 := ja r o
    have q2 := ja r' o'
    have q3 := jb r o
    have q4 := jb r' o'
    rw [e] at q1 q3
    refine ⟨small p1 a1 a2 b1 b2 ?_, small p2 c1 c2 d1 d2 ?_⟩
    · have := Int.dvd_sub q2 q1
      refine Int.dvd_trans this ⟨1, by omega⟩
    · have := Int.dvd_sub q4 q3
      refine Int.dvd_trans this ⟨1, by omega⟩
  · obtain ⟨r, hr, hm⟩ := List.mem_flatMap.mp hx
    obtain ⟨o, ho, rfl⟩ := List.mem_map.mp hm
    obtain ⟨a1, a2, a3⟩ := (k1 r).mp hr
    obtain ⟨c1, c2, c3⟩ := (k2 o).mp ho
    obtain ⟨w0, w1⟩ := jr r o a1 a2
    exact ⟨w0, w1, cop_dvd h ((cong (ja r o)).mpr a3) ((cong (jb r o)).mpr c3)⟩
  · have m1' : a ∣ x - x % a := ⟨x / a, by have := Int.mul_ediv_add_emod x a; omega⟩
    have m2' : b ∣ x - x % b := ⟨x / b, by have := Int.mul_ediv_add_emod x b; omega⟩
    have ra := (k1 (x % a)).mpr ⟨Int.emod_nonneg _ (by omega), Int.emod_lt_of_pos _ p1, (cong m1').mp (Int.dvd_trans ⟨b, rfl⟩ hx)⟩
    have rb := (k2 (x % b)).mpr ⟨Int.emod_nonneg _ (by omega), Int.emod_lt_of_pos _ p2, (cong m2').mp (Int.dvd_trans ⟨a, Int.mul_comm _ _⟩ hx)⟩
    refine List.mem_flatMap.mpr ⟨x % a, ra, List.mem_map.mpr ⟨x % b, rb, ?_⟩⟩
    have w := jr (x % a) (x % b) (Int.emod_nonneg _ (by omega)) (Int.emod_lt_of_pos _ p1)
    have d1 : a ∣ (x % a + a * ((x % b - x % a) * u % b)) - x := by
      have := Int.dvd_sub (ja (x % a) (x % b)) m1'
      exact Int.dvd_trans this ⟨1, by omega⟩
    have d2 : b ∣ (x % a + a * ((x % b - x % a) * u % b)) - x := by
      have := Int.dvd_sub (jb (x % a) (x % b)) m2'
      exact Int.dvd_trans this ⟨1, by omega⟩
    exact small (Int.mul_pos p1 p2) w.1 w.2 x0 x1 (cop_dvd h d1 d2)
/-! ### odd primes that are small: by trying all -/
def isPrT (p : Nat) : Bool := Nat.ble 2 p && (List.range p).all fun d => Nat.ble d 1 || !((p % d).beq 0)
def chkU (p : Nat) : Nat → Bool
  | 0 => true
  | u + 1 => (bif u.beq 0 then true else (bif resM u p then (match prM u p with | some r => Nat.blt r p && (r * r % p).beq u | none => false) else true) && resM (u * u % p) p) && chkU p u
def chkP (p : Nat) : Bool := isPrT p && (p % 2).beq 1 && chkU p p
theorem pr_of_trial {p : Nat} (h : isPrT p = true) : Pr p := by
  unfold isPrT at h
  rw [Bool.and_eq_true] at h
  obtain ⟨h1, h2⟩ := h
  have p2 : 2 ≤ p := Nat.le_of_ble_eq_true h1
  have nd : ∀ d, 2 ≤ d → d < p → ¬ d ∣ p := fun d d2 dp hd => by
    have h3 := List.all_eq_true.mp h2 d (List.mem_range.mpr dp)
    rw [Bool.or_eq_true] at h3
    rcases h3 with z | z
    · have := Nat.le_of_ble_eq_true z
      omega
    · rw [beqT (Nat.mod_eq_zero_of_dvd hd)] at z
      cases z
  refine ⟨p2, fun a b hab => ?_⟩
  have g1 : Nat.gcd p a.natAbs ∣ p := Nat.gcd_dvd_left _ _
  have g2 : Nat.gcd p a.natAbs ∣ a.natAbs := Nat.gcd_dvd_right _ _
  by_cases e : Nat.gcd p a.natAbs = 1
  · refine .inr (Int.ofNat_dvd_left.mpr ?_)
    have h5 : p ∣ a.natAbs * b.natAbs := by
      rw [← Int.natAbs_mul]
      exact Int.ofNat_dvd_left.mp hab
    exact Nat.Coprime.dvd_of_dvd_mul_left (show Nat.Coprime p a.natAbs from e) h5
  · have g0 : Nat.gcd p a.natAbs ≠ 0 := fun z => by
      rw [z] at g1
      have := Nat.eq_zero_of_zero_dvd g1
      omega
    have gp : Nat.gcd p a.natAbs = p := by
      by_cases z : Nat.gcd p a.natAbs = p
      · exact z
      · have := Nat.le_of_dvd (by omega) g1
        exact absurd g1 (nd _ (by omega) (by omega))
    rw [gp] at g2
    exact .inl (Int.ofNat_dvd_left.mpr g2)
theorem chkU_at {p : Nat} : ∀ {n u : Nat}, chkU p n = true → 0 < u → u < n → (resM u p = true → ∃ r, prM u p = some r ∧ r < p ∧ r * r % p = u) ∧ resM (u * u % p) p = true
  | 0, u, _, _, h => absurd h (by omega)
  | n + 1, u, h, h0, h1 => by
    unfold chkU at h
    rw [Bool.and_eq_true] at h
    by_cases e : u = n
    · subst e
      rw [bifF (beqF (show u ≠ 0 by omega)), Bool.and_eq_true] at h
      refine ⟨fun hr => ?_, h.1.2⟩
      have h2 := h.1.1
      rw [bifT hr] at h2
      cases hq : prM u p with
      | none =>
        rw [hq] at h2
        cases h2
      | some r =>
        rw [hq] at h2
        dsimp only at h2
        rw [Bool.and_eq_true] at h2
        exact ⟨r, rfl, by have := Nat.le_of_ble_eq_true h2.1; omega, Nat.eq_of_beq_eq_true h2.2⟩
    · exact chkU_at h.2 h0 (by omega)
theorem primeOk_of {p : Nat} (h : chkP p = true) : PrimeOk p := by
  unfold chkP at h
  rw [Bool.and_eq_true, Bool.and_eq_true] at h
  obtain ⟨⟨h1, h2⟩, h3⟩ := h
  have pr := pr_of_trial h1
  have p2 := pr.1
  refine ⟨pr, Nat.eq_of_beq_eq_true h2, fun u u0 u1 => ⟨fun hr => ?_, fun ⟨x, x1, hx⟩ => ?_⟩, fun u u0 u1 hr => (chkU_at h3 u0 u1).1 hr⟩
  · obtain ⟨r, _, r1, r2⟩ := (chkU_at h3 u0 u1).1 hr
    exact ⟨r, r1, r2⟩
  · have x0 : 0 < x := by
      cases x with
      | zero => rw [Nat.mul_zero, Nat.zero_mod] at hx; omega
      | succ x => omega
    rw [← hx]
    exact (chkU_at h3 x0 x1).2
def facB : Nat → List (Nat × Nat) → Bool
  | _, [] => true
  | acc, (p, k) :: r => (p.beq 2 || (isPrT p && (p % 2).beq 1)) && Nat.ble 1 k && Nat.ble k 48 && Nat.ble (p ^ k) 100000000 && (Nat.gcd acc (p ^ k)).beq 1 && facB (acc * p ^ k) r
def facM (m : Nat) : Bool := match ppM m with
  | none => false
  | some l => (prodP l).beq m && facB 1 l && Nat.ble (lenP l) 16000000
theorem facB_ok (N : Nat) (hp : ∀ p, p ≤ N → isPrT p = true → p % 2 = 1 → PrimeOk p) : ∀ {l : List (Nat × Nat)} {acc : Nat}, (∀ q ∈ l, q.1 ≤ N) → facB acc l = true → FacP acc l
  | [], _, _, _ => trivial
  | (p, k) :: r, acc, hN, h => by
    unfold facB at h
    simp only [Bool.and_eq_true, Bool.or_eq_true] at h
    obtain ⟨⟨⟨⟨⟨h1, h2⟩, h3⟩, h4⟩, h5⟩, h6⟩ := h
    refine ⟨?_, Nat.le_of_ble_eq_true h2, Nat.lt_succ_of_le (Nat.le_of_ble_eq_true h3), Nat.le_of_ble_eq_true h4, Nat.eq_of_beq_eq_true h5, facB_ok N hp (fun q hq => hN q (List.mem_cons_of_mem _ hq)) h6⟩
    rcases h1 with z | ⟨z1, z2⟩
    · exact .inl (Nat.eq_of_beq_eq_true z)
    · exact .inr (hp p (hN (p, k) List.mem_cons_self) z1 (Nat.eq_of_beq_eq_true z2))
theorem resM_mod (u p : Nat) : resM (u % p) p = resM u p := by
  unfold resM pmod
  rw [Nat.mod_mod]
theorem prM_some {u p : Nat} (h : PrimeOk p) (hu : u % p ≠ 0) (hr : resM u p = true) : ∃ r, prM (u % p) p = some r ∧ r < p ∧ r * r % p = u % p := by
  have p2 := h.pr.1
  refine h.root (u % p) (by omega) (Nat.mod_lt _ (by omega)) ?_
  rw [resM_mod]
  exact hr
theorem no_root {u p k : Nat} (h : PrimeOk p) (hu : u % p ≠ 0) (hr : resM u p = false) {x : Int} (x0 : 0 ≤ x) (hx : ((p ^ (k + 1) : Nat) : Int) ∣ x * x - (u : Int)) : False := by
  have p2 := h.pr.1
  obtain ⟨n, rfl⟩ := Int.eq_ofNat_of_zero_le x0
  have e : resM (u % p) p = true := (h.euler (u % p) (by omega) (Nat.mod_lt _ (by omega))).mpr ⟨n % p, Nat.mod_lt _ (by omega), ?_⟩
  · rw [resM_mod, hr] at e
    cases e
  · rw [← Nat.mul_mod]
    have hd : (p : Int) ∣ (n : Int) * (n : Int) - (u : Int) := Int.dvd_trans ⟨((p ^ k : Nat) : Int), by rw [Nat.pow_succ, Int.natCast_mul, Int.mul_comm]⟩ hx
    have e2 := Int.emod_emod_of_dvd ((n : Int) * (n : Int)) (Int.dvd_refl (p : Int))
    have e3 : ((n : Int) * (n : Int)) % (p : Int) = (u : Int) % (p : Int) := Int.emod_eq_emod_iff_emod_sub_eq_zero.mpr (Int.emod_eq_zero_of_dvd hd)
    rw [← Int.natCast_mul, ← Int.natCast_emod, ← Int.natCast_emod] at e3
    exact_mod_cast e3
theorem pr_two : Pr 2 := ⟨Nat.le_refl 2, fun a b ⟨c, hc⟩ => by
  by_cases z : a % 2 = 0
  · exact .inl ⟨a / 2, by show a = 2 * (a / 2); omega⟩
  · by_cases y : b % 2 = 0
    · exact .inr ⟨b / 2, by show b = 2 * (b / 2); omega⟩
    · obtain ⟨s, hs⟩ : ∃ s, a = 2 * s + 1 := ⟨a / 2, by omega⟩
      obtain ⟨t, ht⟩ : ∃ t, b = 2 * t + 1 := ⟨b / 2, by omega⟩
      have e : a * b = 2 * (2 * (s * t) + s + t) + 1 := by rw [hs, ht]; grind
      have e2 : a * b = 2 * c := hc
      omega⟩
theorem odd_sq8 {x : Int} (h : x % 2 = 1) : ∃ c, x * x = 1 + 8 * c := by
  obtain ⟨a, ha⟩ : ∃ a, x = 2 * a + 1 := ⟨x / 2, by omega⟩
  by_cases z : a % 2 = 0
  · obtain ⟨b, hb⟩ : ∃ b, a = 2 * b := ⟨a / 2, by omega⟩
    exact ⟨b * (2 * b + 1), by rw [ha, hb]; grind⟩
  · obtain ⟨b, hb⟩ : ∃ b, a = 2 * b + 1 := ⟨a / 2, by omega⟩
    exact ⟨(2 * b + 1) * (b + 1), by rw [ha, hb]; grind⟩
theorem odd_of_root {x u m : Int} (h : 2 ∣ m) (hu : u % 2 = 1) (hx : m ∣ x * x - u) : x % 2 = 1 := by
  by_cases z : x % 2 = 1
  · exact z
  · obtain ⟨b, hb⟩ : ∃ b, x = 2 * b := ⟨x / 2, by omega⟩
    obtain ⟨a, ha⟩ := h
    obtain ⟨c, hc⟩ := hx
    rw [hb, ha] at hc
    have e : 2 * b * (2 * b) - u = 2 * (a * c) := by rw [hc, Int.mul_assoc]
    have e2 : 2 * b * (2 * b) = 2 * (b * (2 * b)) := Int.mul_assoc _ _ _
    omega
theorem two_rts {u r F : Int} (hu : u % 2 = 1) (hF : ∃ G, F = 2 * G ∧ G % 2 = 0 ∧ 0 < G) (r0 : 0 < r) (r1 : r < F) (hr : 2 * F ∣ r * r - u) (pw : ∀ a b : Int, a % 2 = 1 → F ∣ a * b → F ∣ b) :
    List.Nodup [r, F - r, F + r, 2 * F - r] ∧ ∀ x, x ∈ [r, F - r, F + r, 2 * F - r] ↔ (0 ≤ x ∧ x < 2 * F ∧ 2 * F ∣ x * x - u) := by
  obtain ⟨G, eG, G2, G0⟩ := hF
  have rodd := odd_of_root ⟨F, rfl⟩ hu hr
  obtain ⟨c, hc⟩ := hr
  refine ⟨?_, fun x => ⟨fun hx => ?_, fun ⟨x0, x1, c', hx⟩ => ?_⟩⟩
  · simp only [List.nodup_cons, List.mem_cons, List.not_mem_nil, or_false, List.nodup_nil, and_true, not_or, not_false_eq_true]
    omega
  · have sq : ∀ k s : Int, (s = 1 ∨ s = -1) → 2 * F ∣ (k * F + s * r) * (k * F + s * r) - u := fun k s hs => by
      refine ⟨k * k * G + k * s * r + c, ?_⟩
      rcases hs with rfl | rfl <;> grind
    simp only [List.mem_cons, List.not_mem_nil, or_false] at hx
    rcases hx with rfl | rfl | rfl | rfl
    · exact ⟨by omega, by omega, c, hc⟩
    · refine ⟨by omega, by omega, ?_⟩
      have z := sq 1 (-1) (.inr rfl)
      rw [show (1 : Int) * F + -1 * r = F - r by omega] at z
      exact z
    · refine ⟨by omega, by omega, ?_⟩
      have z := sq 1 1 (.inl rfl)
      rw [show (1 : Int) * F + 1 * r = F + r by omega] at z
      exact z
    · refine ⟨by omega, by omega, ?_⟩
      have z := sq 2 (-1) (.inr rfl)
      rw [show (2 : Int) * F + -1 * r = 2 * F - r by omega] at z
      exact z
  · have xodd := odd_of_root ⟨F, rfl⟩ hu ⟨c', hx⟩
    obtain ⟨s, hs⟩ : ∃ s, x - r = 2 * s := ⟨(x - r) / 2, by omega⟩
    obtain ⟨t, ht⟩ : ∃ t, x + r = 2 * t := ⟨(x + r) / 2, by omega⟩
    have e : 2 * (s * t) = F * (c' - c) := by
      have e1 : (x - r) * (x + r) = 2 * F * (c' - c) := by grind
      rw [hs, ht] at e1
      have e2 : 2 * (2 * (s * t)) = 2 * (F * (c' - c)) := by grind
      omega
    -- s + t = x is odd: one of the two is odd
    have fin : ∀ y : Int, y = r ∨ y = -r → F ∣ x - y → x ∈ [r, F - r, F + r, 2 * F - r] := fun y hy ⟨k, hk⟩ => by
      have k0 : k = 0 ∨ k = 1 ∨ k = 2 := by
        by_cases a : k ≤ -1
        · have z := Int.mul_le_mul_of_nonneg_left a (show 0 ≤ F by omega)
          omega
        · by_cases b : 3 ≤ k
          · have z := Int.mul_le_mul_of_nonneg_left b (show 0 ≤ F by omega)
            omega
          · omega
      simp only [List.mem_cons, List.not_mem_nil, or_false]
      rcases k0 with rfl | rfl | rfl <;> rcases hy with rfl | rfl <;> omega
    by_cases so : s % 2 = 1
    · refine fin (-r) (.inr rfl) ?_
      rw [show x - -r = 2 * t by omega]
      exact pw s (2 * t) so ⟨c' - c, by rw [← e]; grind⟩
    · refine fin r (.inl rfl) ?_
      rw [hs]
      exact pw t (2 * s) (by omega) ⟨c' - c, by rw [← e]; grind⟩
theorem two_pw {k : Nat} {a b : Int} (ha : a % 2 = 1) (h : ((2 ^ k : Nat) : Int) ∣ a * b) : ((2 ^ k : Nat) : Int) ∣ b := by
  have p2 : Pr 2 := ⟨Nat.le_refl 2, fun a b ⟨c, hc⟩ => by
    by_cases z : a % 2 = 0
    · exact .inl ⟨a / 2, by show a = 2 * (a / 2); omega⟩
    · by_cases y : b % 2 = 0
      · exact .inr ⟨b / 2, by show b = 2 * (b / 2); omega⟩
      · obtain ⟨s, hs⟩ : ∃ s, a = 2 * s + 1 := ⟨a / 2, by omega⟩
        obtain ⟨t, ht⟩ : ∃ t, b = 2 * t + 1 := ⟨b / 2, by omega⟩
        have e : a * b = 2 * (2 * (s * t) + s + t) + 1 := by rw [hs, ht]; grind
        have e2 : a * b = 2 * c := hc
        omega⟩
  refine p2.pow_dvd (fun ⟨c, hc⟩ => ?_) h
  have e2 : a = 2 * c := hc
  omega
/-! ### how many -/
theorem nodup_len {α : Type} [DecidableEq α] : ∀ {l m : List α}, l.Nodup → (∀ x ∈ l, x ∈ m) → l.length ≤ m.length
  | [], _, _, _ => Nat.zero_le _
  | x :: r, m, h, k => by
    rw [List.nodup_cons] at h
    have hx := k x List.mem_cons_self
    have h2 := nodup_len (l := r) (m := m.erase x) h.2 fun y hy => by
      have hne : y ≠ x := fun e => h.1 (e ▸ hy)
      exact (List.mem_erase_of_ne hne).mpr (k y (List.mem_cons_of_mem _ hy))
    rw [List.length_erase_of_mem hx] at h2
    have : 0 < m.length := List.length_pos_of_mem hx
    rw [List.length_cons]
    omega
theorem rts_len {z : Int} {m : Nat} {L L' : List Int} (R : Rts z m L) (R' : Rts z m L') : L.length = L'.length :=
  Nat.le_antisymm (nodup_len R.1 fun x hx => (R'.2 x).mpr ((R.2 x).mp hx)) (nodup_len R'.1 fun x hx => (R.2 x).mpr ((R'.2 x).mp hx))
theorem bez_ex : ∀ (n a b : Nat), b ≤ n → ∃ u v : Int, u * (a : Int) + v * (b : Int) = ((Nat.gcd a b : Nat) : Int)
  | 0, a, b, h => ⟨1, 0, by
    have e : b = 0 := by omega
    rw [e, Nat.gcd_zero_right]
    omega⟩
  | n + 1, a, b, h => by
    by_cases e : b = 0
    · exact ⟨1, 0, by rw [e, Nat.gcd_zero_right]; omega⟩
    · obtain ⟨u, v, huv⟩ := bez_ex n b (a % b) (by have := Nat.mod_lt a (show 0 < b by omega); omega)
      refine ⟨v, u - v * ((a / b : Nat) : Int), ?_⟩
      have e1 : Nat.gcd b (a % b) = Nat.gcd a b := by rw [Nat.gcd_comm b, ← Nat.gcd_rec, Nat.gcd_comm]
      rw [e1] at huv
      rw [← huv]
      have e2 : (a : Int) = (b : Int) * ((a / b : Nat) : Int) + ((a % b : Nat) : Int) := by
        rw [← Int.natCast_mul, ← Int.natCast_add, Nat.div_add_mod]
      generalize ((a / b : Nat) : Int) = q at e2 ⊢
      generalize ((a % b : Nat) : Int) = r at e2 ⊢
      rw [e2]
      grind
theorem gcd_ne {p : Nat} (h : Pr p) {a : Nat} (ha : ¬ (p : Int) ∣ (a : Int)) : Nat.gcd a p = 1 := by
  have h1 : Nat.gcd a p ∣ p := Nat.gcd_dvd_right _ _
  have h2 : Nat.gcd a p ∣ a := Nat.gcd_dvd_left _ _
  generalize Nat.gcd a p = g at h1 h2
  obtain ⟨t, ht⟩ := h1
  have p2 := h.1
  rcases h.2 (g : Int) (t : Int) ⟨1, by rw [← Int.natCast_mul, ← ht, Int.mul_one]⟩ with z | z
  · exact absurd (Int.dvd_trans z (Int.natCast_dvd_natCast.mpr h2)) ha
  · obtain ⟨c, hc⟩ := Int.natCast_dvd_natCast.mp z
    rw [hc] at ht
    have e : p * 1 = p * (g * c) := by
      rw [Nat.mul_one]
      calc p = g * (p * c) := ht
        _ = p * (g * c) := by ac_rfl
    exact Nat.eq_one_of_mul_eq_one_right (Nat.eq_of_mul_eq_mul_left (by omega) e).symm
/-- a root modulo each power, from one modulo p -/
theorem lift_ex {p : Nat} {u : Int} {r : Nat} (h : Pr p) (h2 : ¬ (p : Int) ∣ 2 * (r : Int)) (hr : (p : Int) ∣ (r : Int) * (r : Int) - u) : ∀ k : Nat, ∃ x : Int, 0 ≤ x ∧ x < ((p ^ (k + 1) : Nat) : Int) ∧ ((p ^ (k + 1) : Nat) : Int) ∣ x * x - u ∧ (p : Int) ∣ x - (r : Int)
  | 0 => by
    have p2 := h.1
    have p0 : (p : Int) ≠ 0 := by omega
    rw [Nat.zero_add, Nat.pow_one]
    refine ⟨(r : Int) % (p : Int), Int.emod_nonneg _ p0, Int.emod_lt_of_pos _ (by omega), mod_sq hr, ⟨-((r : Int) / (p : Int)), ?_⟩⟩
    have := Int.mul_ediv_add_emod (r : Int) (p : Int)
    rw [Int.mul_neg]
    omega
  | k + 1 => by
    have p2 := h.1
    obtain ⟨x, x0, x1, ⟨c, hc⟩, ⟨w, hw⟩⟩ := lift_ex h h2 hr k
    obtain ⟨inv, v, hb⟩ := bez_ex p (2 * r) p (Nat.le_refl _)
    rw [gcd_ne h (a := 2 * r) (by rw [Int.natCast_mul]; exact h2), Int.natCast_mul] at hb
    have hb' : inv * (2 * (r : Int)) + v * (p : Int) = 1 := hb
    have M0 : (0 : Int) < ((p ^ (k + 2) : Nat) : Int) := by
      have : 0 < p ^ (k + 2) := Nat.pow_pos (by omega)
      omega
    have h2' : inv * (2 * x) - 1 = (p : Int) * (inv * 2 * w - v) := by
      have e1 : x = (r : Int) + (p : Int) * w := by omega
      rw [e1]
      clear hc e1
      grind
    have h3 : ((p ^ (k + 1) : Nat) : Int) = (p : Int) * ((p ^ k : Nat) : Int) := by rw [Nat.pow_succ, Int.natCast_mul, Int.mul_comm]
    obtain ⟨m, hm⟩ := lift_step hc h2' h3
    have eM2 : ((p ^ (k + 2) : Nat) : Int) = ((p ^ (k + 1) : Nat) : Int) * (p : Int) := by rw [Nat.pow_succ p (k + 1), Int.natCast_mul]
    refine ⟨(x - (x * x - u) * inv) % ((p ^ (k + 2) : Nat) : Int), Int.emod_nonneg _ (by omega), Int.emod_lt_of_pos _ M0, mod_sq ⟨m, by rw [hm, eM2]⟩, ?_⟩
    have dm := Int.mul_ediv_add_emod (x - (x * x - u) * inv) ((p ^ (k + 2) : Nat) : Int)
    generalize (x - (x * x - u) * inv) % ((p ^ (k + 2) : Nat) : Int) = y at dm ⊢
    generalize (x - (x * x - u) * inv) / ((p ^ (k + 2) : Nat) : Int) = qq at dm
    rw [hc, eM2, h3] at dm
    refine ⟨w - ((p ^ k : Nat) : Int) * c * inv - ((p ^ k : Nat) : Int) * (p : Int) * qq, ?_⟩
    generalize ((p ^ k : Nat) : Int) = A at dm ⊢
    clear hc hm h2' h3 eM2
    grind
theorem sq_mod_dvd {u p r : Nat} (h : r * r % p = u % p) : (p : Int) ∣ (r : Int) * (r : Int) - (u : Int) := by
  refine Int.dvd_of_emod_eq_zero (Int.emod_eq_emod_iff_emod_sub_eq_zero.mp ?_)
  rw [← Int.natCast_mul, ← Int.natCast_emod, ← Int.natCast_emod, h]
theorem two_r {u p r : Nat} (h : Pr p) (p3 : 2 < p) (hu : u % p ≠ 0) (hr : (p : Int) ∣ (r : Int) * (r : Int) - (u : Int)) : ¬ (p : Int) ∣ 2 * (r : Int) := by
  intro hd
  rcases h.2 _ _ hd with ⟨c, hc⟩ | ⟨c, hc⟩
  · have c1 : 1 ≤ c := by
      by_cases z : 1 ≤ c
      · exact z
      · have := Int.mul_le_mul_of_nonneg_left (show c ≤ 0 by omega) (show (0 : Int) ≤ (p : Int) by omega)
        omega
    have := Int.mul_le_mul_of_nonneg_left c1 (show (0 : Int) ≤ (p : Int) by omega)
    omega
  · obtain ⟨w, hw⟩ := hr
    have e : (u : Int) = (p : Int) * (c * (r : Int) - w) := by
      rw [Int.mul_sub, ← hw, ← Int.mul_assoc, ← hc]
      omega
    have e2 : (u : Int) % (p : Int) = 0 := by rw [e]; exact Int.mul_emod_right _ _
    rw [← Int.natCast_emod] at e2
    omega
/-- the number of roots of a number that p doesn't measure -/
def cntU (u p k : Nat) : Nat := if 2 < p then (if resM u p = true then 2 else 0) else if k = 1 then 1 else if k = 2 then (if u % 4 = 1 then 2 else 0) else (if u % 8 = 1 then 4 else 0)
theorem two_ex {u : Int} (hu : u % 8 = 1) : ∀ j : Nat, ∃ x : Int, 0 < x ∧ x < 4 * ((2 ^ j : Nat) : Int) ∧ 8 * ((2 ^ j : Nat) : Int) ∣ x * x - u
  | 0 => ⟨1, by decide, by decide, ⟨(1 - u) / 8, by show (1 : Int) * 1 - u = 8 * 1 * ((1 - u) / 8); omega⟩⟩
  | j + 1 => by
    obtain ⟨x, x0, x1, c, hc⟩ := two_ex hu j
    have es : ((2 ^ (j + 1) : Nat) : Int) = 2 * ((2 ^ j : Nat) : Int) := by rw [Nat.pow_succ, Int.natCast_mul, Int.mul_comm]; rfl
    have xodd := odd_of_root (m := 8 * ((2 ^ j : Nat) : Int)) ⟨4 * ((2 ^ j : Nat) : Int), by omega⟩ (by omega) ⟨c, hc⟩
    rw [es]
    generalize ((2 ^ j : Nat) : Int) = A at *
    by_cases codd : c % 2 = 1
    · obtain ⟨b, hb⟩ : ∃ b, c = 2 * b + 1 := ⟨c / 2, by omega⟩
      obtain ⟨y, hy⟩ : ∃ y, x = 2 * y + 1 := ⟨x / 2, by omega⟩
      refine ⟨x + 4 * A, by omega, by omega, b + 1 + y + A, ?_⟩
      subst hb
      clear es
      grind
    · obtain ⟨b, hb⟩ : ∃ b, c = 2 * b := ⟨c / 2, by omega⟩
      exact ⟨x, by omega, by omega, b, by rw [hc, hb]; grind⟩
theorem cntU_ok {u p k : Nat} (hp : p = 2 ∨ PrimeOk p) (hu : u % p ≠ 0) : ∃ L, Rts (u : Int) (p ^ (k + 1)) L ∧ L.length = cntU u p (k + 1) := by
  unfold cntU
  rcases hp with e | hp
  · subst e
    rw [if_neg (by decide)]
    have hodd : (u : Int) % 2 = 1 := by omega
    by_cases k1 : k + 1 = 1
    · rw [if_pos k1, k1]
      refine ⟨[1], ⟨by decide, fun x => ?_⟩, rfl⟩
      rw [List.mem_singleton]
      show x = 1 ↔ 0 ≤ x ∧ x < 2 ∧ (2 : Int) ∣ x * x - u
      refine ⟨fun e => ⟨by omega, by omega, by rw [e]; exact ⟨(1 - u) / 2, by omega⟩⟩, fun ⟨a, b, c⟩ => ?_⟩
      have := odd_of_root ⟨1, rfl⟩ hodd c
      omega
    · rw [if_neg k1]
      by_cases k2 : k + 1 = 2
      · rw [if_pos k2, k2]
        by_cases m4 : u % 4 = 1
        · rw [if_pos m4]
          refine ⟨[1, 3], ⟨by decide, fun x => ?_⟩, rfl⟩
          simp only [List.mem_cons, List.not_mem_nil, or_false]
          show x = 1 ∨ x = 3 ↔ 0 ≤ x ∧ x < 4 ∧ (4 : Int) ∣ x * x - u
          refine ⟨fun e => ?_, fun ⟨a, b, c⟩ => ?_⟩
          · rcases e with rfl | rfl
            · exact ⟨by omega, by omega, ⟨(1 - u) / 4, by omega⟩⟩
            · exact ⟨by omega, by omega, ⟨(9 - u) / 4, by omega⟩⟩
          · have := odd_of_root ⟨2, rfl⟩ hodd c
            omega
        · rw [if_neg m4]
          refine ⟨[], ⟨List.nodup_nil, fun x => ⟨(fun hx => nomatch hx), fun ⟨a, b, c⟩ => ?_⟩⟩, rfl⟩
          change (4 : Int) ∣ x * x - u at c
          obtain ⟨y, hy⟩ := odd_sq8 (odd_of_root ⟨2, rfl⟩ hodd c)
          obtain ⟨w, hw⟩ := c
          omega
      · rw [if_neg k2]
        obtain ⟨j, rfl⟩ : ∃ j, k = j + 2 := ⟨k - 2, by omega⟩
        have e8 : ((2 ^ (j + 3) : Nat) : Int) = 8 * ((2 ^ j : Nat) : Int) := by rw [Nat.pow_add, Int.natCast_mul, Int.mul_comm]; rfl
        by_cases m8 : u % 8 = 1
        · rw [if_pos m8]
          obtain ⟨x, c1, c2, c3⟩ := two_ex (u := (u : Int)) (by omega) j
          have j0 : 0 < 2 ^ j := Nat.two_pow_pos j
          have e4 : ((2 ^ (j + 2) : Nat) : Int) = 4 * ((2 ^ j : Nat) : Int) := by rw [Nat.pow_add, Int.natCast_mul, Int.mul_comm]; rfl
          have pw : ∀ a b : Int, a % 2 = 1 → 4 * ((2 ^ j : Nat) : Int) ∣ a * b → 4 * ((2 ^ j : Nat) : Int) ∣ b := fun a b ha hd => by
            rw [← e4] at hd ⊢
            exact two_pw ha hd
          have R := two_rts (F := 4 * ((2 ^ j : Nat) : Int)) hodd ⟨2 * ((2 ^ j : Nat) : Int), by omega, by omega, by omega⟩ c1 c2 (by rw [show 2 * (4 * ((2 ^ j : Nat) : Int)) = 8 * ((2 ^ j : Nat) : Int) by omega]; exact c3) pw
          rw [show 2 * (4 * ((2 ^ j : Nat) : Int)) = 8 * ((2 ^ j : Nat) : Int) by omega] at R
          refine ⟨[x, 4 * ((2 ^ j : Nat) : Int) - x, 4 * ((2 ^ j : Nat) : Int) + x, 8 * ((2 ^ j : Nat) : Int) - x], ?_, rfl⟩
          unfold Rts
          rw [e8]
          exact R
        · rw [if_neg m8]
          refine ⟨[], ⟨List.nodup_nil, fun x => ⟨(fun hx => nomatch hx), fun ⟨a, b, c⟩ => ?_⟩⟩, rfl⟩
          change ((2 ^ (j + 3) : Nat) : Int) ∣ x * x - u at c
          rw [e8] at c
          obtain ⟨y, hy⟩ := odd_sq8 (odd_of_root (m := 8 * ((2 ^ j : Nat) : Int)) ⟨4 * ((2 ^ j : Nat) : Int), by omega⟩ hodd c)
          obtain ⟨w, hw⟩ := c
          rw [Int.mul_assoc] at hw
          omega
  · have p2 := hp.pr.1
    have p3 : 2 < p := by have := hp.odd; omega
    rw [if_pos p3]
    cases hr : resM u p with
    | false =>
      rw [if_neg (by decide)]
      exact ⟨[], ⟨List.nodup_nil, fun x => ⟨(fun hx => nomatch hx), fun ⟨a, b, c⟩ => (no_root hp hu hr a c).elim⟩⟩, rfl⟩
    | true =>
      rw [if_pos rfl]
      obtain ⟨r, _, r1, r2⟩ := prM_some hp hu hr
      have hd := sq_mod_dvd r2
      have h2 := two_r hp.pr p3 hu hd
      obtain ⟨x, x0, x1, hx, ⟨w, hw⟩⟩ := lift_ex hp.pr h2 hd k
      have hx2 : ¬ (p : Int) ∣ 2 * x := by
        rintro ⟨c, hc⟩
        exact h2 ⟨c - 2 * w, by rw [Int.mul_sub, ← hc, show (p : Int) * (2 * w) = 2 * ((p : Int) * w) by grind, ← hw]; omega⟩
      exact ⟨_, unit_rts hp.pr hx2 hx x0 x1, rfl⟩

/-! ### powers modulo a number -/
theorem fm_mul {a b c d p : Nat} (h1 : a % p = b % p) (h2 : c % p = d % p) : a * c % p = b * d % p := by rw [Nat.mul_mod, h1, h2, ← Nat.mul_mod]
theorem fm_pow {a b p : Nat} (n : Nat) (h : a % p = b % p) : a ^ n % p = b ^ n % p := by rw [Nat.pow_mod, h, ← Nat.pow_mod]
theorem pmL_pw (m : Nat) : ∀ (f r s k : Nat), k < 2 ^ f → pmL m f r s k % m = r * s ^ k % m
  | 0, r, s, k, h => by
    have : k = 0 := by
      have : k < 1 := h
      omega
    subst this
    show r % m = r * s ^ 0 % m
    rw [Nat.pow_zero, Nat.mul_one]
  | f + 1, r, s, k, h => by
    show (bif k.beq 0 then r else pmL m f (bif (k % 2).beq 1 then r * s % m else r) (s * s % m) (k / 2)) % m = _
    by_cases z : k = 0
    · subst z
      rw [bifT (beqT rfl), Nat.pow_zero, Nat.mul_one]
    · have h2 : k < 2 ^ f * 2 := by rw [← Nat.pow_succ]; exact h
      rw [bifF (beqF z), pmL_pw m f _ _ _ (by omega)]
      have e2 : s ^ (2 * (k / 2)) = (s * s) ^ (k / 2) := by rw [Nat.pow_mul, Nat.pow_two]
      by_cases y : k % 2 = 1
      · rw [bifT (beqT y)]
        have e3 : s ^ k = (s * s) ^ (k / 2) * s := by
          rw [← e2, ← Nat.pow_succ]
          congr 1
          omega
        rw [e3, show r * ((s * s) ^ (k / 2) * s) = r * s * (s * s) ^ (k / 2) by rw [Nat.mul_comm _ s, ← Nat.mul_assoc]]
        exact fm_mul (Nat.mod_mod _ _) (fm_pow _ (Nat.mod_mod _ _))
      · rw [bifF (beqF y)]
        have e3 : s ^ k = (s * s) ^ (k / 2) := by
          rw [← e2]
          congr 1
          omega
        rw [e3]
        exact fm_mul rfl (fm_pow _ (Nat.mod_mod _ _))
theorem pmod_pw {b e m : Nat} (m1 : 1 < m) (h : e < 2 ^ 64) : pmod b e m = b ^ e % m := by
  have h1 : pmod b e m < m := pmod_lt m1
  have h2 : pmod b e m % m = 1 * (b % m) ^ e % m := pmL_pw m 64 1 (b % m) e h
  rw [Nat.mod_eq_of_lt h1, Nat.one_mul, ← Nat.pow_mod] at h2
  exact h2
theorem resM_pw {u p : Nat} (p1 : 1 < p) (h : p < 2 ^ 60) : resM u p = true ↔ u ^ ((p - 1) / 2) % p = 1 := by
  unfold resM
  have l64 : (2 : Nat) ^ 60 < 2 ^ 64 := by decide
  rw [pmod_pw p1 (by omega)]
  exact ⟨fun h => Nat.eq_of_beq_eq_true h, fun h => beqT h⟩
/-! ### Fermat's theorem -/
def prodN : List Nat → Nat
  | [] => 1
  | x :: l => x * prodN l
def facN : Nat → Nat
  | 0 => 1
  | n + 1 => (n + 1) * facN n
theorem prodN_erase {x : Nat} : ∀ {l : List Nat}, x ∈ l → prodN l = x * prodN (l.erase x)
  | y :: l, h => by
    by_cases e : y = x
    · subst e
      rw [List.erase_cons_head]
      rfl
    · have hm : x ∈ l := by
        rcases List.mem_cons.mp h with h | h
        · exact absurd h.symm e
        · exact h
      rw [List.erase_cons_tail (by simpa using e)]
      show y * prodN l = x * (y * prodN (l.erase x))
      rw [prodN_erase hm, Nat.mul_left_comm]
theorem nodup_upto : ∀ {n : Nat} {l : List Nat}, l.Nodup → (∀ x ∈ l, 1 ≤ x ∧ x ≤ n) → l.length ≤ n
  | 0, l, _, h => by
    cases l with
    | nil => exact Nat.le_refl _
    | cons x l =>
      have := h x List.mem_cons_self
      omega
  | n + 1, l, nd, h => by
    by_cases z : n + 1 ∈ l
    · have h2 : ∀ x ∈ l.erase (n + 1), 1 ≤ x ∧ x ≤ n := fun x hx => by
        have h3 := (List.Nodup.mem_erase_iff nd).mp hx
        have h4 := h x h3.2
        have := h3.1
        omega
      have h5 := nodup_upto (nd.erase _) h2
      have h6 := List.length_erase_of_mem z
      omega
    · have h2 : ∀ x ∈ l, 1 ≤ x ∧ x ≤ n := fun x hx => by
        have h4 := h x hx
        have : x ≠ n + 1 := fun e => z (e ▸ hx)
        omega
      have := nodup_upto nd h2
      omega
theorem prodN_fac : ∀ {n : Nat} {l : List Nat}, l.Nodup → (∀ x ∈ l, 1 ≤ x ∧ x ≤ n) → l.length = n → prodN l = facN n
  | 0, l, _, _, e => by
    rw [List.length_eq_zero_iff.mp e]
    rfl
  | n + 1, l, nd, h, e => by
    have z : n + 1 ∈ l := by
      by_cases z : n + 1 ∈ l
      · exact z
      · have h2 : ∀ x ∈ l, 1 ≤ x ∧ x ≤ n := fun x hx => by
          have h4 := h x hx
          have : x ≠ n + 1 := fun e => z (e ▸ hx)
          omega
        have := nodup_upto nd h2
        omega
    have h2 : ∀ x ∈ l.erase (n + 1), 1 ≤ x ∧ x ≤ n := fun x hx => by
      have h3 := (List.Nodup.mem_erase_iff nd).mp hx
      have h4 := h x h3.2
      have := h3.1
      omega
    have h6 := List.length_erase_of_mem z
    rw [prodN_erase z, prodN_fac (nd.erase _) h2 (by omega)]
    rfl
theorem prodN_mul (a p : Nat) : ∀ L : List Nat, prodN (L.map fun x => a * x % p) % p = a ^ L.length * prodN L % p
  | [] => by
    show 1 % p = a ^ 0 * 1 % p
    rw [Nat.pow_zero]
  | x :: L => by
    show (a * x % p) * prodN (L.map fun x => a * x % p) % p = a ^ (L.length + 1) * (x * prodN L) % p
    rw [show a ^ (L.length + 1) * (x * prodN L) = a * x * (a ^ L.length * prodN L) by
      rw [Nat.pow_succ]
      generalize a ^ L.length = A
      rw [Nat.mul_comm A a, Nat.mul_assoc, Nat.mul_assoc, Nat.mul_left_comm A x]]
    exact fm_mul (Nat.mod_mod _ _) (prodN_mul a p L)
theorem pr_nat {p : Nat} (h : Pr p) {a b : Nat} (d : p ∣ a * b) : p ∣ a ∨ p ∣ b := by
  rcases h.2 (a : Int) (b : Int) (by rw [← Int.natCast_mul]; exact Int.ofNat_dvd.mpr d) with z | z
  · exact .inl (Int.ofNat_dvd.mp z)
  · exact .inr (Int.ofNat_dvd.mp z)
theorem fac_no {p : Nat} (h : Pr p) : ∀ n, n < p → ¬ p ∣ facN n
  | 0, _, d => by
    have h1 := Nat.le_of_dvd (by decide) d
    have h2 : facN 0 = 1 := rfl
    have := h.1
    omega
  | n + 1, hn, d => by
    rcases pr_nat h (show p ∣ (n + 1) * facN n from d) with z | z
    · have := Nat.le_of_dvd (by omega) z
      omega
    · exact fac_no h n (by omega) z
theorem dvd_of_mod {p x y : Nat} (h : x % p = y % p) (l : x ≤ y) : p ∣ y - x := Nat.dvd_of_mod_eq_zero (Nat.sub_mod_eq_zero_of_mod_eq h.symm)
theorem fermat {p : Nat} (h : Pr p) {a : Nat} (ha : ¬ p ∣ a) : a ^ (p - 1) % p = 1 := by
  have p2 := h.1
  have hL : prodN ((List.range (p - 1)).map (· + 1)) = facN (p - 1) := by
    refine prodN_fac ?_ ?_ (by rw [List.length_map, List.length_range])
    · exact List.pairwise_map.mpr (List.pairwise_lt_range.imp fun e => by omega)
    · intro x hx
      obtain ⟨i, hi, rfl⟩ := List.mem_map.mp hx
      have := List.mem_range.mp hi
      omega
  have hl : prodN (((List.range (p - 1)).map (· + 1)).map fun x => a * x % p) = facN (p - 1) := by
    refine prodN_fac ?_ ?_ (by rw [List.length_map, List.length_map, List.length_range])
    · rw [List.map_map]
      refine List.pairwise_map.mpr (List.pairwise_lt_range.imp_of_mem fun {x y} hx hy e e2 => ?_)
      have hx := List.mem_range.mp hx
      have hy := List.mem_range.mp hy
      have e2 : a * (x + 1) % p = a * (y + 1) % p := e2
      have d := dvd_of_mod e2 (Nat.mul_le_mul_left a (by omega))
      rw [← Nat.mul_sub] at d
      rcases pr_nat h d with z | z
      · exact ha z
      · have := Nat.le_of_dvd (by omega) z
        omega
    · intro x hx
      obtain ⟨y, hy, rfl⟩ := List.mem_map.mp hx
      obtain ⟨i, hi, rfl⟩ := List.mem_map.mp hy
      have hi := List.mem_range.mp hi
      have lt : a * (i + 1) % p < p := Nat.mod_lt _ (by omega)
      have n0 : a * (i + 1) % p ≠ 0 := fun z => by
        rcases pr_nat h (Nat.dvd_of_mod_eq_zero z) with z | z
        · exact ha z
        · have := Nat.le_of_dvd (by omega) z
          omega
      show 1 ≤ a * (i + 1) % p ∧ a * (i + 1) % p ≤ p - 1
      omega
  have e := prodN_mul a p ((List.range (p - 1)).map (· + 1))
  rw [hl, hL, List.length_map, List.length_range] at e
  have a0 : 0 < a := by
    rcases Nat.eq_zero_or_pos a with rfl | z
    · exact absurd (Nat.dvd_zero p) ha
    · exact z
  have q1 : 1 ≤ a ^ (p - 1) := Nat.pow_pos a0
  have l1 : facN (p - 1) ≤ a ^ (p - 1) * facN (p - 1) := Nat.le_mul_of_pos_left _ q1
  have d := dvd_of_mod e l1
  have d2 : p ∣ (a ^ (p - 1) - 1) * facN (p - 1) := by
    rw [Nat.sub_mul, Nat.one_mul]
    exact d
  rcases pr_nat h d2 with ⟨c, hc⟩ | z
  · have e5 : a ^ (p - 1) = 1 + p * c := by omega
    rw [e5, Nat.add_mul_mod_self_left, Nat.mod_eq_of_lt (by omega)]
  · exact absurd z (fac_no h _ (by omega))
/-- a square root of 1 -/
theorem sq_one {p : Nat} (h : Pr p) {x : Nat} (e : x * x % p = 1) : x % p = 1 ∨ x % p = p - 1 := by
  have p2 := h.1
  have x0 : 1 ≤ x := by
    rcases Nat.eq_zero_or_pos x with rfl | z
    · rw [Nat.zero_mul, Nat.zero_mod] at e
      cases e
    · exact z
  have d : p ∣ x * x - 1 := dvd_of_mod (by rw [e, Nat.mod_eq_of_lt (by omega)]) (Nat.mul_pos x0 x0)
  have e2 : x * x - 1 = (x - 1) * (x + 1) := by
    obtain ⟨y, rfl⟩ : ∃ y, x = y + 1 := ⟨x - 1, by omega⟩
    rw [Nat.add_sub_cancel, show (y + 1) * (y + 1) = y * (y + 1 + 1) + 1 by rw [Nat.mul_add, Nat.add_mul, Nat.mul_add, Nat.mul_add]; omega]
    omega
  rw [e2] at d
  rcases pr_nat h d with ⟨c, hc⟩ | ⟨c, hc⟩
  · refine .inl ?_
    rw [show x = 1 + p * c by omega, Nat.add_mul_mod_self_left, Nat.mod_eq_of_lt (by omega)]
  · refine .inr ?_
    obtain ⟨e, rfl⟩ : ∃ e, c = e + 1 := ⟨c - 1, by
      rcases Nat.eq_zero_or_pos c with rfl | z
      · omega
      · omega⟩
    have e3 : p * (e + 1) = p * e + p := by rw [Nat.mul_add, Nat.mul_one]
    rw [show x = (p - 1) + p * e by omega, Nat.add_mul_mod_self_left, Nat.mod_eq_of_lt (by omega)]
theorem neg_sq {p : Nat} (p2 : 2 ≤ p) : (p - 1) * (p - 1) % p = 1 := by
  obtain ⟨q, rfl⟩ : ∃ q, p = q + 1 := ⟨p - 1, by omega⟩
  rw [Nat.add_sub_cancel]
  obtain ⟨r, rfl⟩ : ∃ r, q = r + 1 := ⟨q - 1, by omega⟩
  rw [show (r + 1) * (r + 1) = 1 + (r + 1 + 1) * r by grind, Nat.add_mul_mod_self_left, Nat.mod_eq_of_lt (by omega)]
/-! ### Tonelli's and Shanks's walk -/
theorem sqN_pw {p : Nat} : ∀ {k t : Nat}, t < p → sqN p k t = t ^ 2 ^ k % p
  | 0, t, h => by
    show t = t ^ 2 ^ 0 % p
    rw [Nat.pow_zero, Nat.pow_one, Nat.mod_eq_of_lt h]
  | k + 1, t, h => by
    show sqN p k (t * t % p) = _
    rw [sqN_pw (Nat.mod_lt _ (by omega)), fm_pow _ (Nat.mod_mod _ _), Nat.pow_succ 2 k, Nat.mul_comm (2 ^ k) 2, Nat.pow_mul, Nat.pow_two]
theorem dbl_pw {p : Nat} : ∀ {f n x k : Nat}, x < p → x ^ 2 ^ n % p = 1 → n < f → ∃ o, o ≤ n ∧ dblL p f x k = some (k + o) ∧ x ^ 2 ^ o % p = 1 ∧ ∀ j, j < o → x ^ 2 ^ j % p ≠ 1
  | 0, n, x, k, _, _, h => absurd h (by omega)
  | f + 1, n, x, k, hx, h, hn => by
    unfold dblL
    by_cases e : x = 1
    · subst e
      refine ⟨0, Nat.zero_le _, bifT (beqT rfl) _ _, ?_, fun j hj => absurd hj (by omega)⟩
      rw [Nat.one_pow, Nat.mod_eq_of_lt hx]
    · rw [bifF (beqF e)]
      have n1 : n ≠ 0 := fun z => by
        subst z
        rw [Nat.pow_zero, Nat.pow_one, Nat.mod_eq_of_lt hx] at h
        exact e h
      obtain ⟨m, rfl⟩ : ∃ m, n = m + 1 := ⟨n - 1, by omega⟩
      have up : ∀ j, x ^ 2 ^ (j + 1) % p = (x * x % p) ^ 2 ^ j % p := fun j => by
        rw [fm_pow _ (Nat.mod_mod (x * x) p), Nat.pow_succ 2 j, Nat.mul_comm (2 ^ j) 2, Nat.pow_mul, Nat.pow_two]
      rw [up] at h
      obtain ⟨o, h1, h2, h3, h4⟩ := dbl_pw (f := f) (k := k + 1) (Nat.mod_lt _ (by omega)) h (by omega)
      refine ⟨o + 1, by omega, by rw [h2]; congr 1; omega, by rw [up]; exact h3, fun j hj => ?_⟩
      cases j with
      | zero =>
        rw [Nat.pow_zero, Nat.pow_one, Nat.mod_eq_of_lt hx]
        exact e
      | succ j =>
        rw [up]
        exact h4 j (by omega)
structure TsI (p u root rest turn many : Nat) : Prop where
  r1 : root < p
  e1 : rest < p
  t1 : turn < p
  m1 : 1 ≤ many
  sq : root * root % p = u * rest % p
  rs : rest ^ 2 ^ (many - 1) % p = 1
  tn : turn ^ 2 ^ (many - 1) % p = p - 1
theorem ts_two (x a b : Nat) : (x ^ 2 ^ a) ^ 2 ^ b = x ^ 2 ^ (a + b) := by rw [← Nat.pow_mul, ← Nat.pow_add]
theorem ts_walk {p u : Nat} (h : Pr p) (hu : u < p) : ∀ {f root rest turn many : Nat}, many ≤ f → many ≤ 100 → TsI p u root rest turn many → ∃ r, prL p f root rest turn many = some r ∧ r < p ∧ r * r % p = u
  | 0, root, rest, turn, many, hf, _, I => by
    have := I.m1
    omega
  | f + 1, root, rest, turn, many, hf, h9, I => by
    have p2 := h.1
    unfold prL
    by_cases e : rest = 1
    · subst e
      rw [bifT (beqT rfl)]
      exact ⟨root, rfl, I.r1, by rw [I.sq, Nat.mul_one, Nat.mod_eq_of_lt hu]⟩
    · rw [bifF (beqF e)]
      have m1 := I.m1
      obtain ⟨o, o1, o2, o3, o4⟩ := dbl_pw (f := 100) (k := 0) I.e1 I.rs (by omega)
      rw [o2, Nat.zero_add]
      dsimp only
      have o0 : o ≠ 0 := fun z => by
        subst z
        rw [Nat.pow_zero, Nat.pow_one, Nat.mod_eq_of_lt I.e1] at o3
        exact e o3
      have ht : sqN p (many - o - 1) turn % p = turn ^ 2 ^ (many - o - 1) % p := by rw [sqN_pw I.t1, Nat.mod_mod]
      generalize sqN p (many - o - 1) turn = t at ht ⊢
      have half : rest ^ 2 ^ (o - 1) % p = p - 1 := by
        have e2 : rest ^ 2 ^ (o - 1) * rest ^ 2 ^ (o - 1) % p = 1 := by
          rw [← Nat.pow_two, show (rest ^ 2 ^ (o - 1)) ^ 2 = (rest ^ 2 ^ (o - 1)) ^ 2 ^ 1 by rw [Nat.pow_one], ts_two, show o - 1 + 1 = o by omega]
          exact o3
        rcases sq_one h e2 with z | z
        · exact absurd z (o4 (o - 1) (by omega))
        · exact z
      have tn : (t * t % p) ^ 2 ^ (o - 1) % p = p - 1 := by
        rw [fm_pow _ (Nat.mod_mod (t * t) p), ← Nat.pow_two, show (t ^ 2) ^ 2 ^ (o - 1) = (t ^ 2 ^ 1) ^ 2 ^ (o - 1) by rw [Nat.pow_one], ts_two, show 1 + (o - 1) = o by omega, fm_pow _ ht, ts_two, show many - o - 1 + o = many - 1 by omega]
        exact I.tn
      refine ts_walk h hu (many := o) (by omega) (by omega) ⟨Nat.mod_lt _ (by omega), Nat.mod_lt _ (by omega), Nat.mod_lt _ (by omega), by omega, ?_, ?_, tn⟩
      · rw [fm_mul (Nat.mod_mod (root * t) p) (Nat.mod_mod (root * t) p), show root * t * (root * t) = root * root * (t * t) by rw [Nat.mul_assoc, Nat.mul_left_comm t root t, ← Nat.mul_assoc], fm_mul I.sq (Nat.mod_mod (t * t) p).symm, Nat.mul_assoc]
        exact fm_mul rfl (Nat.mod_mod _ _).symm
      · rw [fm_pow _ (Nat.mod_mod _ _), Nat.mul_pow, fm_mul (show rest ^ 2 ^ (o - 1) % p = (p - 1) % p by rw [half, Nat.mod_eq_of_lt (by omega)]) (show (t * t % p) ^ 2 ^ (o - 1) % p = (p - 1) % p by rw [tn, Nat.mod_eq_of_lt (by omega)])]
        exact neg_sq p2
theorem toL_pw {p : Nat} (hp : 2 ≤ p) : ∀ {f n k : Nat}, 0 < n → n < 2 ^ f → k ≤ (toL p f n k).1 ∧ n = p ^ ((toL p f n k).1 - k) * (toL p f n k).2 ∧ (toL p f n k).2 % p ≠ 0
  | 0, n, k, h, h2 => by
    rw [Nat.pow_zero] at h2
    omega
  | f + 1, n, k, h, h2 => by
    unfold toL
    by_cases e : n % p = 0
    · rw [bifT (beqT e)]
      obtain ⟨c, hc⟩ := Nat.dvd_of_mod_eq_zero e
      have e2 : n / p = c := by rw [hc, Nat.mul_div_cancel_left _ (by omega)]
      rw [e2]
      have c0 : 0 < c := by
        rcases Nat.eq_zero_or_pos c with z | z
        · rw [z, Nat.mul_zero] at hc
          omega
        · exact z
      have c1 : 2 * c ≤ n := by rw [hc]; exact Nat.mul_le_mul_right c hp
      rw [Nat.pow_succ] at h2
      obtain ⟨a1, a2, a3⟩ := toL_pw hp (f := f) (k := k + 1) c0 (by omega)
      refine ⟨by omega, ?_, a3⟩
      rw [hc]
      conv => lhs; rw [a2]
      rw [show (toL p f c (k + 1)).1 - k = (toL p f c (k + 1)).1 - (k + 1) + 1 by omega, Nat.pow_succ]
      generalize p ^ ((toL p f c (k + 1)).1 - (k + 1)) = P
      rw [Nat.mul_comm P p, Nat.mul_assoc]
    · rw [bifF (beqF e)]
      exact ⟨Nat.le_refl _, by rw [Nat.sub_self, Nat.pow_zero, Nat.one_mul], e⟩
theorem toL_few {p : Nat} : ∀ {f n k : Nat}, (toL p f n k).1 ≤ k + f
  | 0, n, k => Nat.le_refl _
  | f + 1, n, k => by
    unfold toL
    by_cases e : n % p = 0
    · rw [bifT (beqT e)]
      have := toL_few (p := p) (f := f) (n := n / p) (k := k + 1)
      omega
    · rw [bifF (beqF e)]
      exact Nat.le_add_right _ _
theorem tko_pw {n p : Nat} (hp : 2 ≤ p) (h : 0 < n) (h2 : n < 2 ^ 64) : n = p ^ (takenOut n p).1 * (takenOut n p).2 ∧ (takenOut n p).2 % p ≠ 0 := by
  obtain ⟨a, b, c⟩ := toL_pw hp (f := 64) (k := 0) h h2
  exact ⟨b, c⟩
/-- the walk finds a number that is no square -/
def lnrB (p : Nat) : Bool := match lnrL p 100 2 with
  | some z => !((z % p).beq 0)
  | none => false
theorem lnrL_no {p : Nat} : ∀ {f x z : Nat}, lnrL p f x = some z → resM z p = false
  | 0, _, _, h => by cases h
  | f + 1, x, z, h => by
    unfold lnrL at h
    cases e : resM x p with
    | true =>
      rw [e] at h
      exact lnrL_no (show lnrL p f (x + 1) = some z from h)
    | false =>
      rw [e] at h
      have e2 : x = z := Option.some.inj h
      rw [← e2]
      exact e
theorem primeOk_gen {p : Nat} (h : Pr p) (o : p % 2 = 1) (h60 : p < 2 ^ 60) (hz : lnrB p = true) : PrimeOk p := by
  have p2 := h.1
  have l64 : (2 : Nat) ^ 60 < 2 ^ 64 := by decide
  have root : ∀ u, 0 < u → u < p → resM u p = true → ∃ r, prM u p = some r ∧ r < p ∧ r * r % p = u := by
    intro u u0 u1 hu
    have hu := (resM_pw (by omega) h60).mp hu
    unfold lnrB at hz
    unfold prM
    cases e : lnrL p 100 2 with
    | none =>
      rw [e] at hz
      cases hz
    | some z =>
      rw [e] at hz
      dsimp only at hz ⊢
      have zn : ¬ p ∣ z := fun d => by
        rw [beqT (Nat.mod_eq_zero_of_dvd d)] at hz
        cases hz
      have zr : z ^ ((p - 1) / 2) % p ≠ 1 := fun k => by
        have k := (resM_pw (by omega) h60).mpr k
        rw [lnrL_no e] at k
        cases k
      obtain ⟨t1, t2⟩ := tko_pw (n := p - 1) (p := 2) (by decide) (by omega) (by omega)
      have fst : (takenOut (p - 1) 2).1 ≤ 0 + 64 := toL_few (p := 2) (f := 64) (n := p - 1) (k := 0)
      have od := toL_pos (p := 2) (by decide) (f := 64) (n := p - 1) (k := 0) (by omega)
      change 0 < (takenOut (p - 1) 2).2 ∧ (takenOut (p - 1) 2).2 ≤ p - 1 at od
      generalize (takenOut (p - 1) 2).1 = s at *
      generalize (takenOut (p - 1) 2).2 = q at *
      have s1 : 1 ≤ s := by
        rcases Nat.eq_zero_or_pos s with rfl | z
        · rw [Nat.pow_zero, Nat.one_mul] at t1
          omega
        · exact z
      have hs : q * 2 ^ (s - 1) = (p - 1) / 2 := by
        have e3 : 2 ^ s = 2 * 2 ^ (s - 1) := by
          rw [Nat.mul_comm, ← Nat.pow_succ]
          congr 1
          omega
        rw [e3, Nat.mul_assoc] at t1
        rw [Nat.mul_comm q]
        omega
      have w1 : ∀ x : Nat, (pmod x q p) ^ 2 ^ (s - 1) % p = x ^ ((p - 1) / 2) % p := fun x => by
        rw [pmod_pw (by omega) (by omega), fm_pow _ (Nat.mod_mod _ _), ← Nat.pow_mul, hs]
      refine ts_walk h u1 (by omega) (by omega) ⟨pmod_lt (by omega), pmod_lt (by omega), pmod_lt (by omega), s1, ?_, ?_, ?_⟩
      · rw [pmod_pw (by omega) (by omega), pmod_pw (by omega) (by omega), fm_mul (Nat.mod_mod _ _) (Nat.mod_mod _ _), ← Nat.pow_add, fm_mul (a := u) rfl (Nat.mod_mod (u ^ q) p), Nat.mul_comm u, ← Nat.pow_succ]
        congr 2
        omega
      · rw [w1]
        exact hu
      · rw [w1]
        have e4 : z ^ ((p - 1) / 2) * z ^ ((p - 1) / 2) % p = 1 := by
          rw [← Nat.pow_add, show (p - 1) / 2 + (p - 1) / 2 = p - 1 by omega]
          exact fermat h zn
        rcases sq_one h e4 with y | y
        · exact absurd y zr
        · exact y
  refine ⟨h, o, fun u u0 u1 => ⟨fun hu => ?_, fun ⟨x, x1, hx⟩ => ?_⟩, root⟩
  · obtain ⟨r, _, r1, r2⟩ := root u u0 u1 hu
    exact ⟨r, r1, r2⟩
  · rw [resM_pw (by omega) h60]
    have e : u % p = x * x % p := by rw [hx, Nat.mod_eq_of_lt u1]
    rw [fm_pow _ e, ← Nat.pow_two, ← Nat.pow_mul, show 2 * ((p - 1) / 2) = p - 1 by omega]
    refine fermat h fun d => ?_
    rw [Nat.mod_eq_zero_of_dvd (Nat.dvd_trans d ⟨x, rfl⟩)] at hx
    omega
/-! ### primes by trying up to the root -/
def triB (n : Nat) : Nat → Nat → Bool
  | 0, _ => false
  | f + 1, x => bif n.blt (x * x) then true else !((n % x).beq 0) && triB n f (x + 1)
theorem triB_no {n : Nat} : ∀ {f x : Nat}, triB n f x = true → ∀ y, x ≤ y → y * y ≤ n → ¬ y ∣ n
  | 0, x, h, _, _, _ => by cases h
  | f + 1, x, h, y, hy, hn => by
    unfold triB at h
    by_cases z : n < x * x
    · have := Nat.mul_le_mul hy hy
      omega
    · rw [bifF (by cases e : n.blt (x * x) with | false => rfl | true => exact absurd (Nat.le_of_ble_eq_true e) (by omega)), Bool.and_eq_true] at h
      by_cases e : y = x
      · subst e
        intro d
        have h1 := h.1
        rw [beqT (Nat.mod_eq_zero_of_dvd d)] at h1
        cases h1
      · exact triB_no h.2 y (by omega) hn
def isPrS (n : Nat) : Bool := Nat.ble 2 n && triB n n 2
theorem pr_of_no {p : Nat} (p2 : 2 ≤ p) (nd : ∀ y, 2 ≤ y → y * y ≤ p → ¬ y ∣ p) : Pr p := by
  have nd2 : ∀ d, 2 ≤ d → d < p → ¬ d ∣ p := fun d d2 dp ⟨c, hc⟩ => by
    have c2 : 2 ≤ c := by
      rcases Nat.lt_or_ge c 2 with z | z
      · have : c = 0 ∨ c = 1 := by omega
        rcases this with rfl | rfl
        · omega
        · omega
      · exact z
    rcases Nat.le_total d c with z | z
    · exact nd d d2 (by rw [hc]; exact Nat.mul_le_mul_left d z) ⟨c, hc⟩
    · exact nd c c2 (by rw [hc]; exact Nat.mul_le_mul_right c z) ⟨d, by rw [hc, Nat.mul_comm]⟩
  refine ⟨p2, fun a b hab => ?_⟩
  have g1 : Nat.gcd p a.natAbs ∣ p := Nat.gcd_dvd_left _ _
  have g2 : Nat.gcd p a.natAbs ∣ a.natAbs := Nat.gcd_dvd_right _ _
  by_cases e : Nat.gcd p a.natAbs = 1
  · refine .inr (Int.ofNat_dvd_left.mpr ?_)
    have h5 : p ∣ a.natAbs * b.natAbs := by
      rw [← Int.natAbs_mul]
      exact Int.ofNat_dvd_left.mp hab
    exact Nat.Coprime.dvd_of_dvd_mul_left (show Nat.Coprime p a.natAbs from e) h5
  · have g0 : Nat.gcd p a.natAbs ≠ 0 := fun z => by
      rw [z] at g1
      have := Nat.eq_zero_of_zero_dvd g1
      omega
    have gp : Nat.gcd p a.natAbs = p := by
      by_cases z : Nat.gcd p a.natAbs = p
      · exact z
      · have := Nat.le_of_dvd (by omega) g1
        exact absurd g1 (nd2 _ (by omega) (by omega))
    rw [gp] at g2
    exact .inl (Int.ofNat_dvd_left.mpr g2)
theorem pr_of_tri {p : Nat} (h : isPrS p = true) : Pr p := by
  unfold isPrS at h
  rw [Bool.and_eq_true] at h
  exact pr_of_no (Nat.le_of_ble_eq_true h.1) fun y y2 => triB_no h.2 y y2
def facC : Nat → List (Nat × Nat) → Bool
  | _, [] => true
  | acc, (p, k) :: r => (p.beq 2 || (isPrS p && ((p % 2).beq 1 && lnrB p))) && Nat.ble 1 k && Nat.ble k 48 && Nat.ble (p ^ k) 100000000 && (Nat.gcd acc (p ^ k)).beq 1 && facC (acc * p ^ k) r
def facT (m : Nat) : Bool := match ppM m with
  | none => false
  | some l => (prodP l).beq m && facC 1 l && Nat.ble (lenP l) 16000000
theorem facC_ok : ∀ {l : List (Nat × Nat)} {acc : Nat}, facC acc l = true → FacP acc l
  | [], _, _ => trivial
  | (p, k) :: r, acc, h => by
    unfold facC at h
    simp only [Bool.and_eq_true, Bool.or_eq_true] at h
    obtain ⟨⟨⟨⟨⟨h1, h2⟩, h3⟩, h4⟩, h5⟩, h6⟩ := h
    have h2 := Nat.le_of_ble_eq_true h2
    have h4 := Nat.le_of_ble_eq_true h4
    refine ⟨?_, h2, Nat.lt_succ_of_le (Nat.le_of_ble_eq_true h3), h4, Nat.eq_of_beq_eq_true h5, facC_ok h6⟩
    rcases h1 with z | ⟨z1, z2, z3⟩
    · exact .inl (Nat.eq_of_beq_eq_true z)
    · refine .inr (primeOk_gen (pr_of_tri z1) (Nat.eq_of_beq_eq_true z2) ?_ z3)
      have p1 := (pr_of_tri z1).1
      have : p ^ 1 ≤ p ^ k := Nat.pow_le_pow_right (by omega) h2
      rw [Nat.pow_one] at this
      have : (100000000 : Nat) < 2 ^ 60 := by decide
      omega
theorem facT_ok {m : Nat} (h : facT m = true) : ∃ l, FacOk m l := by
  unfold facT at h
  cases hp : ppM m with
  | none =>
    rw [hp] at h
    cases h
  | some l =>
    rw [hp] at h
    dsimp only at h
    rw [Bool.and_eq_true, Bool.and_eq_true] at h
    obtain ⟨⟨h2, h3⟩, h4⟩ := h
    exact ⟨l, hp, Nat.eq_of_beq_eq_true h2, facC_ok h3, Nat.le_of_ble_eq_true h4⟩

/-! ### forms -/
def dsc (a b c : Int) : Int := b * b - 4 * a * c
def fA (a b c p r : Int) : Int := a * p * p + b * p * r + c * r * r
def fB (a b c p q r s : Int) : Int := 2 * a * p * q + b * (p * s + q * r) + 2 * c * r * s
theorem actA (a b c p q r s x y : Int) : fA (fA a b c p r) (fB a b c p q r s) (fA a b c q s) x y = fA a b c (p * x + q * y) (r * x + s * y) := by
  unfold fA fB
  grind
theorem actB (a b c p q r s x y z w : Int) : fB (fA a b c p r) (fB a b c p q r s) (fA a b c q s) x z y w = fB a b c (p * x + q * y) (p * z + q * w) (r * x + s * y) (r * z + s * w) := by
  unfold fA fB
  grind
theorem dsc_act (a b c p q r s : Int) : dsc (fA a b c p r) (fB a b c p q r s) (fA a b c q s) = dsc a b c * ((p * s - q * r) * (p * s - q * r)) := by
  unfold dsc fA fB
  grind
theorem act_mid (a b c p q r s : Int) : a * (p + q) * (p + q) + b * (p + q) * (r + s) + c * (r + s) * (r + s) - (a * p * p + b * p * r + c * r * r) - (a * q * q + b * q * s + c * s * s) = 2 * a * p * q + b * (p * s + q * r) + 2 * c * r * s := by
  grind
def kindS (d : Int) : Str := if d < 0 then "definite" else if d = 0 then "flat" else if rootI d * rootI d = d then "split" else "indefinite"
/-- the forms that the law draws -/
def sortS (ind : Bool) : Str := if ind then "indefinite" else "definite"
def FormOk (ind : Bool) (a b c : Int) : Prop := a.natAbs ≤ 5 ∧ b.natAbs ≤ 6 ∧ c.natAbs ≤ 5 ∧ kindS (dsc a b c) = sortS ind
theorem kindS_ind {d : Int} (h : kindS d = "indefinite") : 0 < d ∧ rootI d * rootI d ≠ d := by
  unfold kindS at h
  by_cases z : d < 0
  · rw [if_pos z] at h
    exact absurd h (by decide)
  · rw [if_neg z] at h
    by_cases y : d = 0
    · rw [if_pos y] at h
      exact absurd h (by decide)
    · rw [if_neg y] at h
      by_cases x : rootI d * rootI d = d
      · rw [if_pos x] at h
        exact absurd h (by decide)
      · exact ⟨by omega, x⟩
theorem kindS_def {d : Int} (h : kindS d = "definite") : d < 0 := by
  unfold kindS at h
  by_cases z : d < 0
  · exact z
  · rw [if_neg z] at h
    by_cases y : d = 0
    · rw [if_pos y] at h
      exact absurd h (by decide)
    · rw [if_neg y] at h
      by_cases x : rootI d * rootI d = d
      · rw [if_pos x] at h
        exact absurd h (by decide)
      · rw [if_neg x] at h
        exact absurd h (by decide)
theorem uLawRoot0 {n : Int} (h : 0 ≤ n) : 0 ≤ rootI n ∧ rootI n ≤ n := by
  obtain ⟨a, b, c⟩ := rootI_spec h
  refine ⟨a, ?_⟩
  by_cases z : rootI n = 0
  · omega
  · have := Int.mul_le_mul_of_nonneg_right (show 1 ≤ rootI n by omega) a
    omega
theorem mul3 {x y z : Int} {X Y Z : Nat} (h1 : x.natAbs ≤ X) (h2 : y.natAbs ≤ Y) (h3 : z.natAbs ≤ Z) : (x * y * z).natAbs ≤ X * Y * Z := by
  rw [Int.natAbs_mul, Int.natAbs_mul]
  exact Nat.mul_le_mul (Nat.mul_le_mul h1 h2) h3
theorem abs3_le {x y z : Int} {Z : Nat} (h1 : x.natAbs ≤ Z) (h2 : y.natAbs ≤ Z) (h3 : z.natAbs ≤ Z) : (x + y + z).natAbs ≤ 3 * Z := by omega
theorem abs4_le {x y z w : Int} {Z : Nat} (h1 : x.natAbs ≤ Z) (h2 : y.natAbs ≤ Z) (h3 : z.natAbs ≤ Z) (h4 : w.natAbs ≤ Z) : (2 * x + y + z + 2 * w).natAbs ≤ 6 * Z := by omega
theorem act_size {a b c p q r s : Int} {C M : Nat} (ha : a.natAbs ≤ C) (hb : b.natAbs ≤ C) (hc : c.natAbs ≤ C) (hp : p.natAbs ≤ M) (hq : q.natAbs ≤ M) (hr : r.natAbs ≤ M) (hs : s.natAbs ≤ M) :
    (fA a b c p r).natAbs ≤ 3 * (C * M * M) ∧ (fB a b c p q r s).natAbs ≤ 6 * (C * M * M) ∧ (fA a b c q s).natAbs ≤ 3 * (C * M * M) := by
  have t1 := mul3 ha hp hp
  have t2 := mul3 hb hp hr
  have t3 := mul3 hc hr hr
  have t4 := mul3 ha hp hq
  have t5 := mul3 hb hp hs
  have t6 := mul3 hb hq hr
  have t7 := mul3 hc hr hs
  have t8 := mul3 ha hq hq
  have t9 := mul3 hb hq hs
  have t0 := mul3 hc hs hs
  have e : fB a b c p q r s = 2 * (a * p * q) + b * p * s + b * q * r + 2 * (c * r * s) := by
    unfold fB
    grind
  rw [e]
  exact ⟨abs3_le t1 t2 t3, abs4_le t4 t5 t6 t7, abs3_le t8 t9 t0⟩
theorem dsc_size {a b c : Int} {n : Int} (n0 : 0 ≤ n) (ha : (a.natAbs : Int) ≤ n) (hb : (b.natAbs : Int) ≤ n) (hc : (c.natAbs : Int) ≤ n) : -(5 * (n * n)) ≤ dsc a b c ∧ dsc a b c ≤ 5 * (n * n) := by
  have e1 : ((b * b).natAbs : Int) ≤ n * n := by
    rw [Int.natAbs_mul, Int.natCast_mul]
    exact Int.mul_le_mul hb hb (by omega) n0
  have e2 : ((a * c).natAbs : Int) ≤ n * n := by
    rw [Int.natAbs_mul, Int.natCast_mul]
    exact Int.mul_le_mul ha hc (by omega) n0
  unfold dsc
  rw [Int.mul_assoc]
  generalize b * b = x at *
  generalize a * c = y at *
  generalize n * n = z at *
  omega

/-! ### a op b op c op d -/
section
variable {X : Cx} {a b c d : Expr} {ta tb tc td : TE} {pos : Pos}
def tChain3 (r r' r'' : R2) (ta tb tc td : TE) : TE := fun σ H Q => ta σ H fun x H1 => tb σ H1 fun y H2 => r x y H2 fun z H3 => ∃ k, z = .bl k ∧
  (if k = true then tc σ H3 fun w' H4 => r' y w' H4 fun z2 H5 => ∃ k2, z2 = .bl k2 ∧ (if k2 = true then td σ H5 fun w2 H6 => r'' w' w2 H6 Q else Q (.bl false) H5) else Q (.bl false) H3)
theorem pe_chain3 {op op' op2 : CmpOp} {r r' r2' : R2} (ho : OpR X (compareOp op) r) (ho' : OpR X (compareOp op') r') (ho2 : OpR X (compareOp op2) r2') (ha : PE X a ta) (hb : PE X b tb) (hc : PE X c tc) (hd : PE X d td)
    (hm : lastMarks [op, op', op2] [b, c, d] = false := by with_unfolding_all rfl) : PE X (.Compare a [op, op', op2] [b, c, d] pos) (tChain3 r r' r2' ta tb tc td) := by
  refine ⟨fun ps sa σ Ha W Ia hw => ?_⟩
  refine Compare_chain (thn (ha.run ps sa σ Ha _ Ia hw) fun ua sb ⟨xa, Hb, Ib, ra, wa⟩ => chain_link (thn (hb.run ps sb σ Hb _ Ib wa) fun ub sc ⟨xb, Hc, Ic, rb, wb⟩ =>
    thn (ho ps sc σ Hc xa xb ua ub _ Ic ra rb wb) fun _ sd ⟨_, Hd, Id, rz, t1, et, wc⟩ => ?_)) hm
  subst et
  cases rz
  refine wpAny_truthy_bool ?_
  cases t1 with
  | false => exact ite_ff ⟨.bl false, Hd, Id, rfl, wc⟩
  | true =>
    refine ite_tt (chain_link (thn (hc.run ps sd σ Hd _ Id wc) fun uc se ⟨xc, He, Ie, rc, wd⟩ => thn (ho' ps se σ He xb xc ub uc _ Ie rb rc wd) fun _ sf ⟨_, Hf, If, rf, t2, eu, we⟩ => ?_))
    subst eu
    cases rf
    refine wpAny_truthy_bool ?_
    cases t2 with
    | false => exact ite_ff ⟨.bl false, Hf, If, rfl, we⟩
    | true => exact ite_tt (chain_last (thn (hd.run ps sf σ Hf _ If we) fun ud sg ⟨xd, Hg, Ig, rd, wg⟩ => ho2 ps sg σ Hg xc xd uc ud W Ig rc rd wg))
end
theorem r_chain3 {r r' r'' : R2} {ta tb tc td : TE} {σ : L2.St} {H : Hp} {Q : VK} (h : ta σ H fun x H1 => tb σ H1 fun y H2 => r x y H2 fun z H3 => ∃ k, z = .bl k ∧
  (if k = true then tc σ H3 fun w' H4 => r' y w' H4 fun z2 H5 => ∃ k2, z2 = .bl k2 ∧ (if k2 = true then td σ H5 fun w2 H6 => r'' w' w2 H6 Q else Q (.bl false) H5) else Q (.bl false) H3)) : tChain3 r r' r'' ta tb tc td σ H Q := h
/-! ### definite forms -/
/-- positive forms: 4 a c - b b = E -/
structure PF (E a b c : Int) : Prop where
  d : 4 * (a * c) - b * b = E
  e0 : 0 < E
  e1 : E ≤ 10000
  a0 : 0 < a
def RedD (a b c : Int) : Prop := -a < b ∧ b ≤ a ∧ a ≤ c ∧ (0 ≤ b ∨ a ≠ c)
instance {a b c : Int} : Decidable (RedD a b c) := by unfold RedD; infer_instance
theorem sqn (x : Int) : 0 ≤ x * x := by
  rcases Int.le_total 0 x with h | h
  · exact Int.mul_nonneg h h
  · exact Int.mul_nonneg_of_nonpos_of_nonpos h h
theorem sq_le {x y : Int} (h1 : -y ≤ x) (h2 : x ≤ y) : x * x ≤ y * y := by
  have : 0 ≤ (y - x) * (y + x) := Int.mul_nonneg (by omega) (by omega)
  have e : (y - x) * (y + x) = y * y - x * x := by grind
  omega
section
variable {E a b c : Int}
theorem PF.c0 (F : PF E a b c) : 0 < c := by
  have d := F.d
  have e := F.e0
  have a0 := F.a0
  have q := sqn b
  by_cases z : 0 < c
  · exact z
  · have := Int.mul_nonpos_of_nonneg_of_nonpos (show 0 ≤ a by omega) (show c ≤ 0 by omega)
    omega
theorem PF.tr (F : PF E a b c) (n : Int) : PF E a (b + 2 * a * n) (a * n * n + b * n + c) := by
  refine ⟨?_, F.e0, F.e1, F.a0⟩
  rw [← F.d]
  grind
theorem PF.sw (F : PF E a b c) : PF E c (-b) a := by
  refine ⟨?_, F.e0, F.e1, F.c0⟩
  rw [← F.d]
  grind
theorem PF.c_le (F : PF E a b c) (h1 : -a < b) (h2 : b ≤ a) : c ≤ a + E := by
  have d := F.d
  have e := F.e0
  have a0 := F.a0
  have s := sq_le (x := b) (y := a) (by omega) h2
  by_cases z : c ≤ a + E
  · exact z
  · have t := Int.mul_le_mul_of_nonneg_left (show a + E + 1 ≤ c by omega) (show 0 ≤ a by omega)
    have t2 : a * (a + E + 1) = a * a + a * E + a := by grind
    have t3 := Int.mul_le_mul_of_nonneg_right (show 1 ≤ a by omega) (show 0 ≤ E by omega)
    have t4 := sqn a
    omega
theorem PF.half (F : PF E a b c) (h1 : -a < b) (h2 : b ≤ a) (hr : 100 < a) : 2 * c ≤ a := by
  have d := F.d
  have e := F.e1
  have a0 := F.a0
  have s := sq_le (x := b) (y := a) (by omega) h2
  by_cases z : 2 * c ≤ a
  · exact z
  · have t := Int.mul_le_mul_of_nonneg_left (show a + 1 ≤ 2 * c by omega) (show 0 ≤ a by omega)
    have t2 : a * (a + 1) = a * a + a := by grind
    have t3 : a * (2 * c) = 2 * (a * c) := by grind
    have t4 := Int.mul_le_mul (show 101 ≤ a by omega) (show 101 ≤ a by omega) (by decide) (by omega)
    omega
/-- a form takes no lesser value than a reduced a -/
theorem low_val {x y : Int} (h : x ≠ 0 ∨ y ≠ 0) : 1 ≤ x * x - ((x.natAbs : Int) * (y.natAbs : Int)) + y * y := by
  have e1 : x * x = (x.natAbs : Int) * (x.natAbs : Int) := by
    rw [← Int.natCast_mul, ← Int.natAbs_mul]
    have := sqn x
    omega
  have e2 : y * y = (y.natAbs : Int) * (y.natAbs : Int) := by
    rw [← Int.natCast_mul, ← Int.natAbs_mul]
    have := sqn y
    omega
  rw [e1, e2]
  have h' : 0 < (x.natAbs : Int) ∨ 0 < (y.natAbs : Int) := by omega
  have p := Int.natCast_nonneg x.natAbs
  have q := Int.natCast_nonneg y.natAbs
  generalize (x.natAbs : Int) = u at *
  generalize (y.natAbs : Int) = v at *
  have t : 4 * (u * u - u * v + v * v) = (2 * u - v) * (2 * u - v) + 3 * (v * v) := by grind
  have s1 := sqn (2 * u - v)
  have s2 := sqn v
  by_cases z : v = 0
  · subst z
    have := Int.mul_le_mul (show 1 ≤ u by omega) (show 1 ≤ u by omega) (by decide) (by omega)
    omega
  · have := Int.mul_le_mul (show 1 ≤ v by omega) (show 1 ≤ v by omega) (by decide) (by omega)
    omega
theorem val_ge {x y : Int} (a0 : 0 < a) (h1 : -a < b) (h2 : b ≤ a) (h3 : a ≤ c) : a * (x * x - ((x.natAbs : Int) * (y.natAbs : Int)) + y * y) + (c - a) * (y * y) ≤ fA a b c x y := by
  have e : fA a b c x y = a * (x * x) + b * (x * y) + c * (y * y) := by
    unfold fA
    grind
  have k : ((x.natAbs : Int) * (y.natAbs : Int)) = ((x * y).natAbs : Int) := by
    rw [Int.natAbs_mul, Int.natCast_mul]
  rw [e, k]
  generalize x * y = w
  generalize x * x = u
  generalize y * y = v
  have t : -(a * (w.natAbs : Int)) ≤ b * w := by
    rcases Int.le_total 0 w with h | h
    · have := Int.mul_le_mul_of_nonneg_right (show -a ≤ b by omega) h
      have e2 : -a * w = -(a * w) := by grind
      rw [show (w.natAbs : Int) = w by omega]
      omega
    · have := Int.mul_le_mul_of_nonpos_right h2 h
      have e2 : a * -w = -(a * w) := by grind
      rw [show (w.natAbs : Int) = -w by omega, e2]
      omega
  have e3 : a * (u - (w.natAbs : Int) + v) + (c - a) * v = a * u - a * (w.natAbs : Int) + c * v := by grind
  omega
theorem uniq {a b c a' b' c' p q r s : Int} (F : PF E a b c) (R1 : RedD a b c) (G : PF E a' b' c') (R2 : RedD a' b' c') (hd : p * s - q * r = 1) (ea : a' = fA a b c p r) (eb : b' = fB a b c p q r s) (ec : c' = fA a b c q s) : a = a' ∧ b = b' ∧ c = c' := by
  have a0 := F.a0
  have a0' := G.a0
  obtain ⟨u1, u2, u3, u4⟩ := R1
  obtain ⟨w1, w2, w3, w4⟩ := R2
  -- the other way
  have ia : a = fA a' b' c' s (-r) := by
    rw [ea, eb, ec]
    unfold fA fB
    have : a = a * ((p * s - q * r) * (p * s - q * r)) := by rw [hd]; omega
    grind
  have pr : p ≠ 0 ∨ r ≠ 0 := by
    by_cases z : p = 0
    · right
      rintro rfl
      subst z
      omega
    · exact .inl z
  have sr : s ≠ 0 ∨ -r ≠ 0 := by
    by_cases z : s = 0
    · right
      intro h
      have : r = 0 := by omega
      subst this z
      omega
    · exact .inl z
  have v1 := val_ge (x := p) (y := r) a0 u1 u2 u3
  have v2 := val_ge (x := s) (y := -r) a0' w1 w2 w3
  have l1 := low_val pr
  have l2 := low_val sr
  rw [← ea] at v1
  rw [← ia] at v2
  have n1 : 0 ≤ (c - a) * (r * r) := Int.mul_nonneg (by omega) (sqn r)
  have n2 : 0 ≤ (c' - a') * (-r * -r) := Int.mul_nonneg (by omega) (sqn _)
  have m1 := Int.mul_le_mul_of_nonneg_left l1 (show 0 ≤ a by omega)
  have m2 := Int.mul_le_mul_of_nonneg_left l2 (show 0 ≤ a' by omega)
  have haa : a = a' := by omega
  subst haa
  have dd : 4 * (a * c) - b * b = 4 * (a * c') - b' * b' := F.d.trans G.d.symm
  by_cases hr : r = 0
  · subst hr
    have ps : p * s = 1 := by omega
    have p2 : p * p = 1 := by
      have h : p.natAbs * s.natAbs = 1 := by
        rw [← Int.natAbs_mul, ps]
        rfl
      have h2 : p.natAbs = 1 := Nat.dvd_one.mp ⟨s.natAbs, h.symm⟩
      rcases Int.natAbs_eq p with h3 | h3 <;> rw [h3, h2] <;> rfl
    have e1 : b' = b + 2 * a * (p * q) := by
      rw [eb]
      unfold fB
      have : b * (p * s + q * 0) = b := by rw [ps]; omega
      grind
    have e2 : b = b' := by
      generalize p * q = t at e1
      have : t = 0 := by
        rcases Int.lt_trichotomy t 0 with h | h | h
        · have := Int.mul_le_mul_of_nonneg_left (show t ≤ -1 by omega) (show 0 ≤ 2 * a by omega)
          omega
        · exact h
        · have := Int.mul_le_mul_of_nonneg_left (show 1 ≤ t by omega) (show 0 ≤ 2 * a by omega)
          omega
      subst this
      omega
    subst e2
    have : a * c = a * c' := by omega
    exact ⟨rfl, rfl, Int.eq_of_mul_eq_mul_left (by omega) this⟩
  · have r1 : 1 ≤ r * r := by
      have := sqn r
      have : r * r ≠ 0 := fun h => hr ((Int.mul_eq_zero.mp h).elim id id)
      omega
    have q1 : c = a := by
      have t := Int.mul_le_mul_of_nonneg_left r1 (show 0 ≤ c - a by omega)
      omega
    have q2 : c' = a := by
      have e : -r * -r = r * r := by grind
      rw [e] at n2 v2 m2
      have t := Int.mul_le_mul_of_nonneg_left r1 (show 0 ≤ c' - a by omega)
      omega
    subst q1
    have b0 : 0 ≤ b := by
      rcases u4 with h | h
      · exact h
      · exact absurd rfl h
    have b0' : 0 ≤ b' := by
      rcases w4 with h | h
      · exact h
      · exact absurd q2.symm h
    rw [q2] at dd
    have bb : b * b = b' * b' := by omega
    have : b = b' := by
      rcases Int.lt_trichotomy b b' with h | h | h
      · have := Int.mul_le_mul (show b + 1 ≤ b' by omega) (show b + 1 ≤ b' by omega) (by omega) (by omega)
        have e : (b + 1) * (b + 1) = b * b + 2 * b + 1 := by grind
        omega
      · exact h
      · have := Int.mul_le_mul (show b' + 1 ≤ b by omega) (show b' + 1 ≤ b by omega) (by omega) (by omega)
        have e : (b' + 1) * (b' + 1) = b' * b' + 2 * b' + 1 := by grind
        omega
    exact ⟨rfl, this, q2.symm⟩
end
/-- how far it is -/
def Pt9 (c : Int) (k : Nat) : Prop := (c ≤ 100 ∧ c ≤ (k : Int)) ∨ ∃ t, k = 101 + t ∧ c.toNat < 2 ^ t
theorem pt_half {c c' : Int} {k : Nat} (h : Pt9 c k) (hc : 100 < c) (c0 : 0 < c') (h4 : 2 * c' ≤ c) : ∃ k', k' < k ∧ Pt9 c' k' := by
  rcases h with ⟨h, _⟩ | ⟨t, rfl, ht⟩
  · omega
  · by_cases z : c' ≤ 100
    · exact ⟨c'.toNat, by omega, .inl ⟨z, by omega⟩⟩
    · cases t with
      | zero => exact absurd ht (by rw [Nat.pow_zero]; omega)
      | succ t => exact ⟨101 + t, by omega, .inr ⟨t, rfl, by rw [Nat.pow_succ] at ht; omega⟩⟩
theorem pt_less {c c' : Int} {k : Nat} (h : Pt9 c k) (hc : c ≤ 100) (c0 : 0 < c') (h4 : c' < c) : ∃ k', k' < k ∧ Pt9 c' k' := by
  refine ⟨c'.toNat, ?_, .inl ⟨by omega, by omega⟩⟩
  rcases h with ⟨_, h⟩ | ⟨t, rfl, ht⟩
  · omega
  · omega

/-! ### indefinite forms -/
theorem not_sq {D : Int} (h0 : 0 < D) (h : rootI D * rootI D ≠ D) (x : Int) : x * x ≠ D := by
  intro e
  obtain ⟨a, b, c⟩ := rootI_spec (n := D) (by omega)
  have n2 : ((x.natAbs : Int)) * (x.natAbs : Int) = D := by
    rw [← e, ← Int.natCast_mul, ← Int.natAbs_mul]
    have : 0 ≤ x * x := by omega
    omega
  rcases Int.lt_trichotomy (x.natAbs : Int) (rootI D) with z | z | z
  · have := Int.mul_le_mul (show (x.natAbs : Int) + 1 ≤ rootI D by omega) (show (x.natAbs : Int) + 1 ≤ rootI D by omega) (by omega) a
    have e2 : ((x.natAbs : Int) + 1) * ((x.natAbs : Int) + 1) = (x.natAbs : Int) * (x.natAbs : Int) + 2 * (x.natAbs : Int) + 1 := by grind
    omega
  · rw [z] at n2
    exact h n2
  · have := Int.mul_le_mul (show rootI D + 1 ≤ (x.natAbs : Int) by omega) (show rootI D + 1 ≤ (x.natAbs : Int) by omega) (by omega) (by omega)
    omega
/-- forms of the discriminant D, which is no square -/
structure IF (D a b c : Int) : Prop where
  d : dsc a b c = D
  d0 : 0 < D
  d1 : D ≤ 10000
  ns : rootI D * rootI D ≠ D
/-- reduced: point 3.4, by integers -/
def RedI (D a b : Int) : Prop := 0 < b ∧ b ≤ rootI D ∧ 2 * (a.natAbs : Int) - b ≤ rootI D ∧ rootI D < 2 * (a.natAbs : Int) + b
instance {D a b : Int} : Decidable (RedI D a b) := by unfold RedI; infer_instance
section
variable {D a b c : Int}
theorem IF.root (F : IF D a b c) : 0 ≤ rootI D ∧ rootI D < 100 ∧ rootI D * rootI D < D ∧ D < (rootI D + 1) * (rootI D + 1) := by
  obtain ⟨x, y, z⟩ := rootI_spec (n := D) (Int.le_of_lt F.d0)
  have h := F.ns
  have d1 := F.d1
  refine ⟨x, ?_, by omega, z⟩
  by_cases q : rootI D < 100
  · exact q
  · have := Int.mul_le_mul (show 100 ≤ rootI D by omega) (show 100 ≤ rootI D by omega) (by decide) x
    omega
theorem IF.c0 (F : IF D a b c) : c ≠ 0 := by
  rintro rfl
  have e := F.d
  unfold dsc at e
  exact not_sq F.d0 F.ns b (by omega)
theorem IF.a0 (F : IF D a b c) : a ≠ 0 := by
  rintro rfl
  have e := F.d
  unfold dsc at e
  exact not_sq F.d0 F.ns b (by rw [← e]; grind)
/-- the form behind (0, -1, 1, n) -/
theorem IF.go (F : IF D a b c) (n : Int) : IF D c (-b + 2 * c * n) (a - b * n + c * n * n) := by
  refine ⟨?_, F.d0, F.d1, F.ns⟩
  rw [← F.d]
  unfold dsc
  grind
theorem IF.cc (F : IF D a b c) : 4 * (a * c) = b * b - D := by
  have := F.d
  unfold dsc at this
  rw [Int.mul_assoc] at this
  omega
theorem prod_abs {x y z : Int} (h : 4 * (x * y) = z) : 4 * ((x.natAbs : Int) * (y.natAbs : Int)) = (z.natAbs : Int) := by
  rw [← h, Int.natAbs_mul, Int.natAbs_mul]
  rfl
theorem sq_abs (x : Int) : (x.natAbs : Int) * (x.natAbs : Int) = x * x := by
  rw [← Int.natCast_mul, ← Int.natAbs_mul]
  have : 0 ≤ x * x := by
    rcases Int.le_total 0 x with h | h
    · exact Int.mul_nonneg h h
    · exact Int.mul_nonneg_of_nonpos_of_nonpos h h
  omega
/-- a great c: |b'| <= |c| makes 4 |c'| <= |c| -/
theorem IF.far {b' c' : Int} (F : IF D c b' c') (hc : rootI D < (c.natAbs : Int)) (hb : (b'.natAbs : Int) ≤ (c.natAbs : Int)) : 4 * (c'.natAbs : Int) ≤ (c.natAbs : Int) := by
  obtain ⟨r0, r1, r2, r3⟩ := F.root
  have e := prod_abs F.cc
  have s1 : b' * b' ≤ (c.natAbs : Int) * (c.natAbs : Int) := by
    rw [← sq_abs b']
    exact Int.mul_le_mul hb hb (by omega) (by omega)
  have s2 : (rootI D + 1) * (rootI D + 1) ≤ (c.natAbs : Int) * (c.natAbs : Int) := Int.mul_le_mul (by omega) (by omega) (by omega) (by omega)
  have s3 : 0 ≤ b' * b' := by
    rw [← sq_abs]
    exact Int.mul_nonneg (by omega) (by omega)
  have d0 := F.d0
  have s4 : ((b' * b' - D).natAbs : Int) ≤ (c.natAbs : Int) * (c.natAbs : Int) := by omega
  rw [← e] at s4
  by_cases z : 4 * (c'.natAbs : Int) ≤ (c.natAbs : Int)
  · exact z
  · have p : 0 < (c.natAbs : Int) := by omega
    have t := Int.mul_lt_mul_of_pos_left (show (c.natAbs : Int) < 4 * (c'.natAbs : Int) by omega) p
    have t2 : (c.natAbs : Int) * (4 * (c'.natAbs : Int)) = 4 * ((c.natAbs : Int) * (c'.natAbs : Int)) := by grind
    omega
/-- a small c, and b' in its bounds: reduced, or c' less -/
theorem IF.near {b' c' : Int} (F : IF D c b' c') (hc : (c.natAbs : Int) ≤ rootI D) (h1 : rootI D - 2 * (c.natAbs : Int) < b') (h2 : b' ≤ rootI D) : RedI D c b' ∨ (c'.natAbs : Int) < (c.natAbs : Int) := by
  obtain ⟨r0, r1, r2, r3⟩ := F.root
  have c0 := F.a0
  by_cases z : 2 * (c.natAbs : Int) ≤ rootI D
  · exact .inl ⟨by omega, h2, by omega, by omega⟩
  · right
    have e := prod_abs F.cc
    have s1 : b' * b' ≤ rootI D * rootI D := by
      rw [← sq_abs b']
      exact Int.mul_le_mul (by omega) (by omega) (by omega) r0
    have s2 : (rootI D + 1) * (rootI D + 1) ≤ (2 * (c.natAbs : Int)) * (2 * (c.natAbs : Int)) := Int.mul_le_mul (by omega) (by omega) (by omega) (by omega)
    have s3 : 0 ≤ b' * b' := by
      rw [← sq_abs]
      exact Int.mul_nonneg (by omega) (by omega)
    have s5 : (2 * (c.natAbs : Int)) * (2 * (c.natAbs : Int)) = 4 * ((c.natAbs : Int) * (c.natAbs : Int)) := by grind
    by_cases y : (c'.natAbs : Int) < (c.natAbs : Int)
    · exact y
    · have t := Int.mul_le_mul_of_nonneg_left (show (c.natAbs : Int) ≤ (c'.natAbs : Int) by omega) (show 0 ≤ (c.natAbs : Int) by omega)
      omega
/-- c' is small as well -/
theorem IF.small {b' c' : Int} (F : IF D c b' c') (hb : b' * b' ≤ 10000) : (c'.natAbs : Int) ≤ 10000 := by
  have e := prod_abs F.cc
  have c0 := F.a0
  have d1 := F.d1
  have d0 := F.d0
  have s3 : 0 ≤ b' * b' := by
    rw [← sq_abs]
    exact Int.mul_nonneg (by omega) (by omega)
  have t := Int.mul_le_mul_of_nonneg_right (show 1 ≤ (c.natAbs : Int) by omega) (show 0 ≤ (c'.natAbs : Int) by omega)
  omega
end
/-- the middle number behind step_of, the step, the far step -/
def bN (D b c : Int) : Int := rootI D - (rootI D + b) % (2 * (c.natAbs : Int))
def nN (D b c : Int) : Int := (b + bN D b c).fdiv (2 * c)
def nF (b c : Int) : Int := (b + (c.natAbs : Int)).fdiv (2 * (c.natAbs : Int)) * (if 0 < c then 1 else -1)
theorem bN_spec {D b c : Int} (hc : c ≠ 0) : rootI D - 2 * (c.natAbs : Int) < bN D b c ∧ bN D b c ≤ rootI D ∧ -b + 2 * c * nN D b c = bN D b c := by
  have h0 : 0 < 2 * (c.natAbs : Int) := by omega
  have m0 := Int.emod_nonneg (rootI D + b) (show 2 * (c.natAbs : Int) ≠ 0 by omega)
  have m1 := Int.emod_lt_of_pos (rootI D + b) h0
  have m2 := Int.mul_ediv_add_emod (rootI D + b) (2 * (c.natAbs : Int))
  have dv : (2 * c) ∣ (b + bN D b c) := by
    have e : b + bN D b c = 2 * (c.natAbs : Int) * ((rootI D + b) / (2 * (c.natAbs : Int))) := by
      unfold bN
      omega
    rw [e]
    refine Int.dvd_trans ?_ (Int.dvd_mul_right _ _)
    rcases Int.natAbs_eq c with h | h
    · exact ⟨1, by omega⟩
    · exact ⟨-1, by omega⟩
  obtain ⟨k, hk⟩ := dv
  have hn : nN D b c = k := by
    unfold nN
    rw [hk, Int.mul_fdiv_cancel_left _ (by omega)]
  refine ⟨by unfold bN; omega, by unfold bN; omega, ?_⟩
  rw [hn, ← hk]
  omega
theorem nF_spec {b c : Int} (hc : c ≠ 0) : ((-b + 2 * c * nF b c).natAbs : Int) ≤ (c.natAbs : Int) := by
  have h0 : 0 < 2 * (c.natAbs : Int) := by omega
  unfold nF
  rw [Int.fdiv_eq_ediv_of_nonneg _ (by omega)]
  have m0 := Int.emod_nonneg (b + (c.natAbs : Int)) (show 2 * (c.natAbs : Int) ≠ 0 by omega)
  have m1 := Int.emod_lt_of_pos (b + (c.natAbs : Int)) h0
  have m2 := Int.mul_ediv_add_emod (b + (c.natAbs : Int)) (2 * (c.natAbs : Int))
  have e : 2 * c * ((b + (c.natAbs : Int)) / (2 * (c.natAbs : Int)) * (if 0 < c then 1 else -1)) = 2 * (c.natAbs : Int) * ((b + (c.natAbs : Int)) / (2 * (c.natAbs : Int))) := by
    generalize (b + (c.natAbs : Int)) / (2 * (c.natAbs : Int)) = x
    by_cases z : 0 < c
    · rw [if_pos z, Int.mul_one, show (c.natAbs : Int) = c by omega]
    · rw [if_neg z, show (c.natAbs : Int) = -c by omega]
      grind
  rw [e]
  omega
/-- how far it is -/
def Pt (R c : Int) (k : Nat) : Prop := ((c.natAbs : Int) ≤ R ∧ c.natAbs ≤ k) ∨ ∃ t, k = 101 + t ∧ c.natAbs < 2 ^ t
theorem Pt.far {R c c' : Int} {k : Nat} (hR : R < 100) (h : Pt R c k) (hc : R < (c.natAbs : Int)) (h4 : 4 * (c'.natAbs : Int) ≤ (c.natAbs : Int)) (hc0 : c ≠ 0) : ∃ k', k' < k ∧ Pt R c' k' := by
  rcases h with ⟨h, _⟩ | ⟨t, rfl, ht⟩
  · omega
  · by_cases z : (c'.natAbs : Int) ≤ R
    · exact ⟨c'.natAbs, by omega, .inl ⟨z, Nat.le_refl _⟩⟩
    · cases t with
      | zero => exact absurd ht (by rw [Nat.pow_zero]; omega)
      | succ t => exact ⟨101 + t, by omega, .inr ⟨t, rfl, by rw [Nat.pow_succ] at ht; omega⟩⟩
theorem Pt.near {R c c' : Int} {k : Nat} (h : Pt R c k) (hR : R < 100) (hc : (c.natAbs : Int) ≤ R) (h4 : (c'.natAbs : Int) < (c.natAbs : Int)) : ∃ k', k' < k ∧ Pt R c' k' := by
  refine ⟨c'.natAbs, ?_, .inl ⟨by omega, Nat.le_refl _⟩⟩
  rcases h with ⟨_, h⟩ | ⟨t, rfl, ht⟩
  · omega
  · omega
theorem n_size {b c n : Int} (hc : c ≠ 0) (hb : (b.natAbs : Int) ≤ 1099511627776) (h : ((-b + 2 * c * n).natAbs : Int) ≤ 1099511627776) : n.natAbs ≤ 2199023255552 := by
  have e : ((2 * c * n).natAbs : Int) = 2 * ((c.natAbs : Int) * (n.natAbs : Int)) := by
    rw [Int.mul_assoc, Int.natAbs_mul, Int.natAbs_mul]
    rfl
  have t := Int.mul_le_mul_of_nonneg_right (show 1 ≤ (c.natAbs : Int) by omega) (show 0 ≤ (n.natAbs : Int) by omega)
  omega

theorem IF.sizes {D a b c : Int} (F : IF D a b c) (R : RedI D a b) : ((c.natAbs : Int) ≤ rootI D) ∧ 2 * (c.natAbs : Int) ≤ rootI D + b ∧ ((a.natAbs : Int) ≤ rootI D) := by
  obtain ⟨r0, r1, r2, r3⟩ := F.root
  obtain ⟨q1, q2, q3, q4⟩ := R
  have e := prod_abs F.cc
  have a0 := F.a0
  have s1 : b * b ≤ rootI D * rootI D := Int.mul_le_mul q2 q2 (by omega) r0
  have e2 : ((b * b - D).natAbs : Int) = D - b * b := by omega
  rw [e2] at e
  have k : 2 * (c.natAbs : Int) ≤ rootI D + b := by
    by_cases z : 2 * (c.natAbs : Int) ≤ rootI D + b
    · exact z
    · have t := Int.mul_le_mul (show rootI D - b + 1 ≤ 2 * (a.natAbs : Int) by omega) (show rootI D + b + 1 ≤ 2 * (c.natAbs : Int) by omega) (by omega) (by omega)
      have e3 : (rootI D - b + 1) * (rootI D + b + 1) = (rootI D + 1) * (rootI D + 1) - b * b := by grind
      have e4 : 2 * (a.natAbs : Int) * (2 * (c.natAbs : Int)) = 4 * ((a.natAbs : Int) * (c.natAbs : Int)) := by grind
      omega
  exact ⟨by omega, k, by omega⟩
/-- the neighbour of a reduced form is reduced, and no other n leads to a reduced form -/
theorem IF.nb {D a b c : Int} (F : IF D a b c) (R : RedI D a b) : RedI D c (bN D b c) := by
  obtain ⟨r0, r1, r2, r3⟩ := F.root
  obtain ⟨s1, s2, s3⟩ := F.sizes R
  obtain ⟨q1, q2, q3, q4⟩ := R
  have c0 := F.c0
  obtain ⟨v1, v2, v3⟩ := bN_spec (D := D) (b := b) c0
  by_cases z : 2 * (c.natAbs : Int) ≤ rootI D
  · exact ⟨by omega, v2, by omega, by omega⟩
  · have m2 := Int.mul_ediv_add_emod (rootI D + b) (2 * (c.natAbs : Int))
    have e : (rootI D + b) / (2 * (c.natAbs : Int)) = 1 := by
      refine Int.ediv_eq_iff_of_pos (by omega) |>.mpr ?_
      omega
    rw [e] at m2
    have eb : bN D b c = 2 * (c.natAbs : Int) - b := by
      unfold bN
      omega
    rw [eb]
    exact ⟨by omega, by omega, by omega, by omega⟩
theorem IF.only {D a b c n : Int} (F : IF D a b c) (hn : n ≠ nN D b c) : ¬ RedI D c (-b + 2 * c * n) := by
  rintro ⟨q1, q2, q3, q4⟩
  have c0 := F.c0
  obtain ⟨v1, v2, v3⟩ := bN_spec (D := D) (b := b) c0
  have e : (-b + 2 * c * n) - bN D b c = 2 * (c * (n - nN D b c)) := by
    rw [← v3]
    grind
  have e2 : ((c * (n - nN D b c)).natAbs : Int) = (c.natAbs : Int) * ((n - nN D b c).natAbs : Int) := by
    rw [Int.natAbs_mul]
    rfl
  have t := Int.mul_le_mul_of_nonneg_left (show 1 ≤ ((n - nN D b c).natAbs : Int) by omega) (show 0 ≤ (c.natAbs : Int) by omega)
  omega
theorem IF.nbc {D a b c : Int} (F : IF D a b c) : (bN D b c * bN D b c - D).fdiv (4 * c) = a - b * nN D b c + c * nN D b c * nN D b c := by
  have c0 := F.c0
  obtain ⟨v1, v2, v3⟩ := bN_spec (D := D) (b := b) c0
  have G := (F.go (nN D b c)).cc
  rw [v3] at G
  rw [← G, ← Int.mul_assoc, Int.mul_fdiv_cancel_left _ (by omega)]

/-! ### split forms -/
/-- a direction: (x, y) without its measure, the sign set -/
def Dir (x y x' y' : Int) : Prop := (∃ g, g ≠ 0 ∧ x = g * x' ∧ y = g * y') ∧ gI x' y' = 1 ∧ (0 < x' ∨ (x' = 0 ∧ y' = 1))
/-- (x, y) is where one of the two lines of the form lies, with the middle number k behind it -/
def Ln (a b c k x y : Int) : Prop := 2 * a * x + b * y = -(k * y) ∧ b * x + 2 * c * y = k * x
theorem Ln.zero {a b c k x y : Int} (h : Ln a b c k x y) : fA a b c x y = 0 := by
  obtain ⟨h1, h2⟩ := h
  have e : 2 * fA a b c x y = x * (2 * a * x + b * y) + y * (b * x + 2 * c * y) := by
    unfold fA
    grind
  rw [h1, h2] at e
  have : x * -(k * y) + y * (k * x) = 0 := by grind
  omega
theorem Ln.mid {a b c k x y u v : Int} (h : Ln a b c k x y) (hd : u * x + v * y = 1) : fB a b c x (-v) y u = k := by
  obtain ⟨h1, h2⟩ := h
  have e : fB a b c x (-v) y u = -v * (2 * a * x + b * y) + u * (b * x + 2 * c * y) := by
    unfold fB
    grind
  rw [e, h1, h2]
  have : -v * -(k * y) + u * (k * x) = k * (u * x + v * y) := by grind
  rw [this, hd, Int.mul_one]
theorem Ln.of {a b c k g x y : Int} (hg : g ≠ 0) (h : Ln a b c k (g * x) (g * y)) : Ln a b c k x y := by
  obtain ⟨h1, h2⟩ := h
  constructor
  · refine Int.eq_of_mul_eq_mul_left hg ?_
    have e1 : g * (2 * a * x + b * y) = 2 * a * (g * x) + b * (g * y) := by grind
    have e2 : g * -(k * y) = -(k * (g * y)) := by grind
    rw [e1, e2]
    exact h1
  · refine Int.eq_of_mul_eq_mul_left hg ?_
    have e1 : g * (b * x + 2 * c * y) = b * (g * x) + 2 * c * (g * y) := by grind
    have e2 : g * (k * x) = k * (g * x) := by grind
    rw [e1, e2]
    exact h2
/-- the canonical split form is one -/
theorem split_one {k c c' p q r s : Int} (k0 : 0 < k) (hd : p * s - q * r = 1) (h1 : 0 ≤ c) (h2 : c < k) (h3 : 0 ≤ c') (h4 : c' < k) (ea : 0 = fA 0 k c p r) (eb : k = fB 0 k c p q r s) (ec : c' = fA 0 k c q s) : c = c' := by
  unfold fA at ea ec
  unfold fB at eb
  have e1 : r * (k * p + c * r) = 0 := by
    have : 0 * p * p + k * p * r + c * r * r = r * (k * p + c * r) := by grind
    omega
  rcases Int.mul_eq_zero.mp e1 with h | h
  · subst h
    have ps : p * s = 1 := by omega
    have hs : s.natAbs = 1 := by
      have h : p.natAbs * s.natAbs = 1 := by
        rw [← Int.natAbs_mul, ps]
        rfl
      exact Nat.dvd_one.mp ⟨p.natAbs, by rw [Nat.mul_comm]; exact h.symm⟩
    have s2 : s * s = 1 := by
      rcases Int.natAbs_eq s with h3 | h3 <;> rw [h3, hs] <;> rfl
    have e2 : c' = k * (q * s) + c := by
      have : 0 * q * q + k * q * s + c * s * s = k * (q * s) + c * (s * s) := by grind
      rw [s2] at this
      omega
    generalize q * s = t at e2
    have : t = 0 := by
      rcases Int.lt_trichotomy t 0 with h | h | h
      · have := Int.mul_le_mul_of_nonneg_left (show t ≤ -1 by omega) (show 0 ≤ k by omega)
        omega
      · exact h
      · have := Int.mul_le_mul_of_nonneg_left (show 1 ≤ t by omega) (show 0 ≤ k by omega)
        omega
    subst this
    omega
  · exfalso
    have e2 : 2 * 0 * p * q + k * (p * s + q * r) + 2 * c * r * s = k * (q * r - p * s) + 2 * s * (k * p + c * r) := by grind
    rw [h, show q * r - p * s = -1 by omega] at e2
    omega
theorem gL_two (x y : Int) : gL [x, y] = ((Nat.gcd x.natAbs y.natAbs : Nat) : Int) := by
  unfold gL
  simp [gI]
theorem dir_of {x y G g : Int} (h : x ≠ 0 ∨ y ≠ 0) (hG : G = ((Nat.gcd x.natAbs y.natAbs : Nat) : Int)) (hg : g = if x < 0 ∨ (x = 0 ∧ y < 0) then -G else G) : g ≠ 0 ∧ Dir x y (x.fdiv g) (y.fdiv g) ∧ (x.fdiv g).natAbs ≤ x.natAbs ∧ (y.fdiv g).natAbs ≤ y.natAbs := by
  have hp : 0 < Nat.gcd x.natAbs y.natAbs := by
    rcases h with h | h
    · exact Nat.gcd_pos_of_pos_left _ (by omega)
    · exact Nat.gcd_pos_of_pos_right _ (by omega)
  have g0 : g ≠ 0 := by
    rw [hg]
    split <;> omega
  have ga : g.natAbs = Nat.gcd x.natAbs y.natAbs := by
    rw [hg, hG]
    split <;> omega
  have dx : g ∣ x := Int.natAbs_dvd_natAbs.mp (by rw [ga]; exact Nat.gcd_dvd_left _ _)
  have dy : g ∣ y := Int.natAbs_dvd_natAbs.mp (by rw [ga]; exact Nat.gcd_dvd_right _ _)
  obtain ⟨x', hx⟩ := dx
  obtain ⟨y', hy⟩ := dy
  have ex : x.fdiv g = x' := by rw [hx, Int.mul_fdiv_cancel_left _ g0]
  have ey : y.fdiv g = y' := by rw [hy, Int.mul_fdiv_cancel_left _ g0]
  rw [ex, ey]
  have co : Nat.gcd x'.natAbs y'.natAbs = 1 := by
    have e : Nat.gcd x.natAbs y.natAbs = Nat.gcd x.natAbs y.natAbs * Nat.gcd x'.natAbs y'.natAbs := by
      conv => lhs; rw [hx, hy, Int.natAbs_mul, Int.natAbs_mul, Nat.gcd_mul_left, ga]
    exact (Nat.eq_of_mul_eq_mul_left hp (by rw [Nat.mul_one]; exact e)).symm
  have l1 : x'.natAbs ≤ x.natAbs := by
    rw [hx, Int.natAbs_mul]
    exact Nat.le_mul_of_pos_left _ (by omega)
  have l2 : y'.natAbs ≤ y.natAbs := by
    rw [hy, Int.natAbs_mul]
    exact Nat.le_mul_of_pos_left _ (by omega)
  refine ⟨g0, ⟨⟨g, g0, hx, hy⟩, by unfold gI; rw [co]; rfl, ?_⟩, l1, l2⟩
  have G0 : 0 < G := by omega
  by_cases z : x < 0 ∨ (x = 0 ∧ y < 0)
  · rw [if_pos z] at hg
    rcases z with z | ⟨z1, z2⟩
    · left
      rcases Int.lt_trichotomy x' 0 with k | k | k
      · have := Int.mul_pos_of_neg_of_neg (show g < 0 by omega) k
        omega
      · subst k
        omega
      · exact k
    · right
      have x0 : x' = 0 := by
        rw [z1] at hx
        exact (Int.mul_eq_zero.mp hx.symm).resolve_left g0
      subst x0
      refine ⟨rfl, ?_⟩
      have y1 : y'.natAbs = 1 := by
        have := co
        simp at this
        exact this
      rcases Int.lt_trichotomy y' 0 with k | k | k
      · have := Int.mul_pos_of_neg_of_neg (show g < 0 by omega) k
        omega
      · subst k
        omega
      · omega
  · rw [if_neg z] at hg
    by_cases w : x = 0
    · right
      have x0 : x' = 0 := by
        rw [w] at hx
        exact (Int.mul_eq_zero.mp hx.symm).resolve_left g0
      subst x0
      refine ⟨rfl, ?_⟩
      have y1 : y'.natAbs = 1 := by
        have := co
        simp at this
        exact this
      rcases Int.lt_trichotomy y' 0 with k | k | k
      · have := Int.mul_neg_of_pos_of_neg (show 0 < g by omega) k
        omega
      · subst k
        omega
      · omega
    · left
      rcases Int.lt_trichotomy x' 0 with k | k | k
      · have := Int.mul_neg_of_pos_of_neg (show 0 < g by omega) k
        omega
      · subst k
        omega
      · exact k
theorem ln0 (b c : Int) : Ln 0 b c (-b) c (-b) := by
  constructor
  · grind
  · grind
theorem ln1 {a b c k : Int} (hd : b * b - 4 * a * c = k * k) : Ln a b c (-k) (k - b) (2 * a) ∧ Ln a b c (- -k) (-k - b) (2 * a) := by
  have e : b * (k - b) + 2 * c * (2 * a) = k * b - (b * b - 4 * a * c) := by grind
  have e2 : b * (-k - b) + 2 * c * (2 * a) = -(k * b) - (b * b - 4 * a * c) := by grind
  refine ⟨⟨?_, ?_⟩, ⟨?_, ?_⟩⟩
  · grind
  · rw [e, hd]
    grind
  · grind
  · rw [e2, hd]
    grind
/-- a split form of the root k -/
structure SF (k a b c : Int) : Prop where
  d : dsc a b c = k * k
  k0 : 0 < k
theorem SF.root {k a b c : Int} (F : SF k a b c) : rootI (b * b - 4 * a * c) = k := by
  have d : b * b - 4 * a * c = k * k := F.d
  have k0 := F.k0
  have e : k * k < (k + 1) * (k + 1) := by
    have : (k + 1) * (k + 1) = k * k + 2 * k + 1 := by grind
    omega
  rw [d]
  exact (rootI_uniq (Int.mul_nonneg (by omega) (by omega)) (by omega) (Int.le_refl _) e).symm
/-- a line: its point, the sign of the middle number behind it -/
structure Pt2 (a b c k x y : Int) : Prop where
  g : gI x y = 1
  s : 0 < x ∨ (x = 0 ∧ y = 1)
  l : Ln a b c k x y
  b1 : x.natAbs ≤ 35184372088832
  b2 : y.natAbs ≤ 35184372088832
theorem iteVV {i j : Nat} {σ : L2.St} {H : Hp} {Q : VK} {c : Prop} [Decidable c] {v : V} (h1 : c → σ[i]? = some (some v)) (h2 : ¬ c → σ[j]? = some (some v)) (q : Q v H) : if decide c = true then tVar i σ H Q else tVar j σ H Q := by
  by_cases h : c
  · rw [if_pos (decide_eq_true h)]
    exact ⟨v, h1 h, q⟩
  · rw [if_neg (fun z => h (of_decide_eq_true z))]
    exact ⟨v, h2 h, q⟩
/-- what canonical_split gives -/
structure CS (k a b c c' p q r s : Int) : Prop where
  c0 : 0 ≤ c'
  c1 : c' < k
  det : p * s - q * r = 1
  ea : 0 = fA a b c p r
  eb : k = fB a b c p q r s
  ec : c' = fA a b c q s
theorem upd_seqT {K : PySem.W.Frag} {H : Hp} {D a : Addr} {ys zs xs : List V} (hD : H D = some (.lst ys)) (h : SqT K H a xs) : SqT K (upd H D (.lst zs)) a xs := by
  rcases h with (h | ⟨o, h⟩) | h
  · refine .inl (.inl ((upd_ne ?_).trans h))
    rintro rfl
    rw [hD] at h
    cases h
  · refine .inl (.inr ⟨o, (upd_ne ?_).trans h⟩)
    rintro rfl
    rw [hD] at h
    cases h
  · exact .inr h
theorem cs_of {k a b c x y u v : Int} (k0 : 0 < k) (d : u * x + v * y = 1) (l : Ln a b c k x y) : CS k a b c (fA a b c (-v) u % k) (x * 1 + -v * 0) (x * -((fA a b c (-v) u).fdiv k) + -v * 1) (y * 1 + u * 0) (y * -((fA a b c (-v) u).fdiv k) + u * 1) := by
  have z := l.zero
  have m := l.mid d
  have e := Int.mul_ediv_add_emod (fA a b c (-v) u) k
  rw [← Int.fdiv_eq_ediv_of_nonneg _ (by omega)] at e
  generalize hn : (fA a b c (-v) u).fdiv k = n at *
  refine ⟨Int.emod_nonneg _ (by omega), Int.emod_lt_of_pos _ k0, ?_, ?_, ?_, ?_⟩
  · grind
  · rw [show x * 1 + -v * 0 = x by omega, show y * 1 + u * 0 = y by omega, z]
  · have e3 : fB a b c (x * 1 + -v * 0) (x * -n + -v * 1) (y * 1 + u * 0) (y * -n + u * 1) = 2 * -n * fA a b c x y + fB a b c x (-v) y u := by
      unfold fA fB
      grind
    rw [e3, z, m]
    omega
  · have e3 : fA a b c (x * -n + -v * 1) (y * -n + u * 1) = n * n * fA a b c x y + -n * fB a b c x (-v) y u + fA a b c (-v) u := by
      unfold fA fB
      grind
    rw [e3, z, m]
    have : -n * k = -(k * n) := by grind
    omega

/-! ### flat forms -/
structure FL (a b c g p q : Int) : Prop where
  ea : a = g * (p * p)
  eb : b = 2 * (g * (p * q))
  ec : c = g * (q * q)
  co : gI p q = 1
  sg : 0 < p ∨ (p = 0 ∧ q = 1)
  g0 : g ≠ 0
theorem gL_three (x y z : Int) : gL [x, y, z] = ((Nat.gcd (Nat.gcd x.natAbs y.natAbs) z.natAbs : Nat) : Int) := by
  unfold gL
  simp [gI]
theorem FL.content {a b c g p q : Int} (h : FL a b c g p q) : gL [a, b, c] = (g.natAbs : Int) := by
  obtain ⟨ea, eb, ec, co, sg, g0⟩ := h
  rw [gL_three]
  have e1 : a.natAbs = g.natAbs * (p.natAbs * p.natAbs) := by rw [ea, Int.natAbs_mul, Int.natAbs_mul]
  have e2 : b.natAbs = g.natAbs * (2 * (p.natAbs * q.natAbs)) := by
    rw [eb, Int.natAbs_mul, Int.natAbs_mul, Int.natAbs_mul]
    show 2 * (g.natAbs * (p.natAbs * q.natAbs)) = _
    ac_rfl
  have e3 : c.natAbs = g.natAbs * (q.natAbs * q.natAbs) := by rw [ec, Int.natAbs_mul, Int.natAbs_mul]
  have co2 : Nat.Coprime p.natAbs q.natAbs := by
    have : ((Nat.gcd p.natAbs q.natAbs : Nat) : Int) = 1 := co
    show Nat.gcd p.natAbs q.natAbs = 1
    omega
  have c2 : Nat.Coprime (p.natAbs * p.natAbs) (q.natAbs * q.natAbs) := Nat.Coprime.mul_left (Nat.Coprime.mul_right co2 co2) (Nat.Coprime.mul_right co2 co2)
  have c3 : Nat.gcd (Nat.gcd (p.natAbs * p.natAbs) (2 * (p.natAbs * q.natAbs))) (q.natAbs * q.natAbs) = 1 := by
    refine Nat.dvd_one.mp ?_
    rw [← c2]
    exact Nat.dvd_gcd (Nat.dvd_trans (Nat.gcd_dvd_left _ _) (Nat.gcd_dvd_left _ _)) (Nat.gcd_dvd_right _ _)
  rw [e1, e2, e3, Nat.gcd_mul_left, Nat.gcd_mul_left, c3, Nat.mul_one]
theorem FL.of {a b c g P Q : Int} (g0 : g ≠ 0) (h : P ≠ 0 ∨ Q ≠ 0) (ea : a = g * (P * P)) (eb : b = 2 * (g * (P * Q))) (ec : c = g * (Q * Q)) : ∃ g' p q, FL a b c g' p q := by
  obtain ⟨h0, ⟨⟨k, k0, e1, e2⟩, co, sg⟩, _, _⟩ := dir_of (x := P) (y := Q) (g := if P < 0 ∨ (P = 0 ∧ Q < 0) then -((Nat.gcd P.natAbs Q.natAbs : Nat) : Int) else ((Nat.gcd P.natAbs Q.natAbs : Nat) : Int)) h rfl rfl
  generalize P.fdiv _ = p at *
  generalize Q.fdiv _ = q at *
  refine ⟨g * (k * k), p, q, ?_, ?_, ?_, co, sg, ?_⟩
  · rw [ea, e1]
    grind
  · rw [eb, e1, e2]
    grind
  · rw [ec, e2]
    grind
  · intro z
    rcases Int.mul_eq_zero.mp z with w | w
    · exact g0 w
    · exact k0 ((Int.mul_eq_zero.mp w).elim id id)
def FlatR (a b c g p q : Int) : Prop := (a = 0 ∧ b = 0 ∧ c = 0 ∧ g = 0 ∧ p = 1 ∧ q = 0) ∨ FL a b c g p q
theorem em_step {a b i B : Nat} (hb : b ≠ 0) (h : (i = 0 ∧ a * b * 2 < B) ∨ (b ≤ a ∧ a * b * 2 ^ i < B)) : a % b ≤ b ∧ b * (a % b) * 2 ^ (i + 1) < B := by
  have h1 : a % b < b := Nat.mod_lt _ (by omega)
  refine ⟨by omega, ?_⟩
  rcases h with ⟨rfl, h⟩ | ⟨hl, h⟩
  · have h2 : b * (a % b) ≤ b * a := Nat.mul_le_mul_left _ (Nat.mod_le _ _)
    rw [Nat.mul_comm b a] at h2
    have e : (2 : Nat) ^ (0 + 1) = 2 := rfl
    rw [e]
    omega
  · have h2 : 2 * (a % b) ≤ a := by
      have h3 := Nat.div_add_mod a b
      have h4 : 1 ≤ a / b := Nat.div_pos hl (by omega)
      have h5 : b * 1 ≤ b * (a / b) := Nat.mul_le_mul_left _ h4
      omega
    have h3 : b * (2 * (a % b)) ≤ b * a := Nat.mul_le_mul_left _ h2
    have e : b * (a % b) * 2 ^ (i + 1) = b * (2 * (a % b)) * 2 ^ i := by
      rw [Nat.pow_succ]
      ac_rfl
    rw [e]
    refine Nat.lt_of_le_of_lt (Nat.mul_le_mul_right _ h3) ?_
    rw [Nat.mul_comm b a]
    exact h

theorem em_end5 {a b G B : Nat} (hG : Nat.gcd a b = G) (h : (5000 = 0 ∧ a * b * 2 < B) ∨ (b ≤ a ∧ a * b * 2 ^ 5000 < B)) (hB : B ≤ 2 ^ 5000) : a = G := by
  rcases h with ⟨h, _⟩ | ⟨hl, h⟩
  · cases h
  · have h1 : a * b = 0 := by
      by_cases z : a * b = 0
      · exact z
      · have h2 : 1 * 2 ^ 5000 ≤ a * b * 2 ^ 5000 := Nat.mul_le_mul_right _ (by omega)
        rw [Nat.one_mul] at h2
        omega
    have hb : b = 0 := by
      rcases Nat.mul_eq_zero.mp h1 with z | z
      · omega
      · exact z
    rw [hb, Nat.gcd_zero_right] at hG
    exact hG

/-! ### the river -/
/-- a slope's order: where the form is above 0 comes ahead -/
theorem rv_slope {a b c x y u v : Int} (ha : 0 < a) (hc : c < 0) (x0 : 0 ≤ x) (y0 : 0 ≤ y) (u0 : 0 ≤ u) (v0 : 0 ≤ v) (h1 : 0 < fA a b c x y) (h2 : fA a b c u v < 0) : 0 < x * v - y * u := by
  by_cases z : 0 < x * v - y * u
  · exact z
  · exfalso
    have le : x * v ≤ y * u := by omega
    have v1 : 0 < v := by
      rcases Int.lt_or_le 0 v with k | k
      · exact k
      · have : v = 0 := by omega
        subst this
        have e : fA a b c u 0 = a * (u * u) := by unfold fA; grind
        have := Int.mul_nonneg (Int.le_of_lt ha) (Int.mul_nonneg u0 u0)
        omega
    have x1 : 0 < x := by
      rcases Int.lt_or_le 0 x with k | k
      · exact k
      · have : x = 0 := by omega
        subst this
        have e : fA a b c 0 y = c * (y * y) := by unfold fA; grind
        have := Int.mul_nonneg (show 0 ≤ -c by omega) (Int.mul_nonneg y0 y0)
        rw [Int.neg_mul] at this
        omega
    have xv := Int.mul_pos x1 v1
    have y1 : 0 < y := by
      rcases Int.lt_or_le 0 y with k | k
      · exact k
      · have : y = 0 := by omega
        subst this
        omega
    have u1 : 0 < u := by
      rcases Int.lt_or_le 0 u with k | k
      · exact k
      · have : u = 0 := by omega
        subst this
        omega
    have e : x * y * fA a b c u v - u * v * fA a b c x y = (y * u - x * v) * (a * (u * x) + -c * (v * y)) := by unfold fA; grind
    have p1 := Int.mul_nonneg (show 0 ≤ y * u - x * v by omega) (Int.add_nonneg (Int.mul_nonneg (Int.le_of_lt ha) (Int.mul_nonneg u0 x0)) (Int.mul_nonneg (show 0 ≤ -c by omega) (Int.mul_nonneg v0 y0)))
    have p2 := Int.mul_pos (Int.mul_pos u1 v1) h1
    have p3 := Int.mul_neg_of_pos_of_neg (Int.mul_pos x1 y1) h2
    omega
theorem rv_neg {a b c x y : Int} : fA a b c (-x) (-y) = fA a b c x y := by unfold fA; grind
theorem rv_mir {a b c x y : Int} : fA a (-b) c x (-y) = fA a b c x y := by unfold fA; grind
/-- all of one sign, or the inverse so -/
theorem rv_signs {a b c p q r s : Int} (ha : 0 < a) (hc : c < 0) (hd : p * s - q * r = 1) (h1 : 0 < fA a b c p r) (h2 : fA a b c q s < 0) (p0 : 0 ≤ p) :
    (0 ≤ r ∧ 0 ≤ q ∧ 0 ≤ s) ∨ (r ≤ 0 ∧ q ≤ 0 ∧ 0 ≤ s) ∨ (p = 0 ∧ r ≤ 0 ∧ q ≤ 0 ∧ s ≤ 0) ∨ (p = 0 ∧ 0 ≤ r ∧ 0 ≤ q ∧ s ≤ 0) := by
  have pz : ∀ z : Int, p = 0 → False := by
    intro _ hp
    subst hp
    have e : fA a b c 0 r = c * (r * r) := by unfold fA; grind
    have rr : 0 ≤ r * r := by
      rcases Int.le_total 0 r with k | k
      · exact Int.mul_nonneg k k
      · exact Int.mul_nonneg_of_nonpos_of_nonpos k k
    have := Int.mul_nonneg (show 0 ≤ -c by omega) rr
    rw [Int.neg_mul] at this
    omega
  have p1 : 0 < p := by
    rcases Int.lt_or_le 0 p with k | k
    · exact k
    · exact (pz 0 (by omega)).elim
  have s1 : s ≠ 0 := by
    intro hs
    subst hs
    have e : fA a b c q 0 = a * (q * q) := by unfold fA; grind
    have rr : 0 ≤ q * q := by
      rcases Int.le_total 0 q with k | k
      · exact Int.mul_nonneg k k
      · exact Int.mul_nonneg_of_nonpos_of_nonpos k k
    have := Int.mul_nonneg (Int.le_of_lt ha) rr
    omega
  rcases Int.le_total 0 r with r0 | r0
  · rcases Int.le_total 0 q with q0 | q0
    · rcases Int.lt_or_gt_of_ne s1 with k | k
      · have a1 := Int.mul_neg_of_pos_of_neg p1 k
        have a2 := Int.mul_nonneg q0 r0
        omega
      · exact .inl ⟨r0, q0, by omega⟩
    · rcases Int.lt_or_gt_of_ne s1 with k | k
      · have := rv_slope ha hc p0 r0 (show 0 ≤ -q by omega) (show 0 ≤ -s by omega) h1 (by rw [rv_neg]; exact h2)
        have e : p * -s - r * -q = -(p * s - q * r) := by grind
        omega
      · by_cases rz : r = 0
        · exact .inr (.inl ⟨by omega, q0, by omega⟩)
        · by_cases qz : q = 0
          · exact .inl ⟨r0, by omega, by omega⟩
          · have a1 := Int.mul_pos p1 k
            have a2 := Int.mul_neg_of_neg_of_pos (show q < 0 by omega) (show 0 < r by omega)
            omega
  · rcases Int.le_total 0 q with q0 | q0
    · rcases Int.lt_or_gt_of_ne s1 with k | k
      · have := rv_slope (b := -b) ha hc p0 (show 0 ≤ -r by omega) q0 (show 0 ≤ -s by omega) (by rw [rv_mir]; exact h1) (by rw [rv_mir]; exact h2)
        have e : p * -s - -r * q = -(p * s - q * r) := by grind
        omega
      · by_cases rz : r = 0
        · exact .inl ⟨by omega, q0, by omega⟩
        · by_cases qz : q = 0
          · exact .inr (.inl ⟨r0, by omega, by omega⟩)
          · have a1 := Int.mul_pos p1 k
            have a2 := Int.mul_neg_of_pos_of_neg (show 0 < q by omega) (show r < 0 by omega)
            omega
    · rcases Int.lt_or_gt_of_ne s1 with k | k
      · have a1 := Int.mul_neg_of_pos_of_neg p1 k
        have a2 := Int.mul_nonneg_of_nonpos_of_nonpos q0 r0
        omega
      · exact .inr (.inl ⟨r0, q0, by omega⟩)
abbrev Fm := Int × Int × Int
def actF (f : Fm) (p q r s : Int) : Fm := (fA f.1 f.2.1 f.2.2 p r, fB f.1 f.2.1 f.2.2 p q r s, fA f.1 f.2.1 f.2.2 q s)
theorem fm_ext {f g : Fm} (h1 : f.1 = g.1) (h2 : f.2.1 = g.2.1) (h3 : f.2.2 = g.2.2) : f = g := Prod.ext h1 (Prod.ext h2 h3)
theorem actF_mul (f : Fm) (p q r s x z y w : Int) : actF (actF f p q r s) x z y w = actF f (p * x + q * y) (p * z + q * w) (r * x + s * y) (r * z + s * w) := by
  unfold actF
  refine fm_ext ?_ ?_ ?_ <;> (dsimp only; (try unfold fA); (try unfold fB); grind)
theorem actF_one (f : Fm) : actF f 1 0 0 1 = f := by
  unfold actF
  refine fm_ext ?_ ?_ ?_ <;> (dsimp only; (try unfold fA); (try unfold fB); grind)
theorem actF_neg (f : Fm) (p q r s : Int) : actF f (-p) (-q) (-r) (-s) = actF f p q r s := by
  unfold actF
  refine fm_ext ?_ ?_ ?_ <;> (dsimp only; (try unfold fA); (try unfold fB); grind)
theorem actF_inv (f : Fm) {p q r s : Int} (hd : p * s - q * r = 1) : actF (actF f p q r s) s (-q) (-r) p = f := by
  rw [actF_mul]
  have e1 : p * s + q * -r = 1 := by rw [← hd]; grind
  have e2 : p * -q + q * p = 0 := by grind
  have e3 : r * s + s * -r = 0 := by grind
  have e4 : r * -q + s * p = 1 := by rw [← hd]; grind
  rw [e1, e2, e3, e4, actF_one]
/-- a > 0 > c -/
def Riv (f : Fm) : Prop := 0 < f.1 ∧ f.2.2 < 0
/-- the next one along the river -/
def nxR (f : Fm) : Fm := if f.1 + f.2.1 + f.2.2 < 0 then (f.1, f.2.1 + 2 * f.1, f.1 + f.2.1 + f.2.2) else (f.1 + f.2.1 + f.2.2, f.2.1 + 2 * f.2.2, f.2.2)
def nxN : Nat → Fm → Fm
  | 0, f => f
  | k + 1, f => nxN k (nxR f)
theorem actF_R (f : Fm) : actF f 1 1 0 1 = (f.1, f.2.1 + 2 * f.1, f.1 + f.2.1 + f.2.2) := by
  unfold actF
  refine fm_ext ?_ ?_ ?_ <;> (dsimp only; (try unfold fA); (try unfold fB); grind)
theorem actF_L (f : Fm) : actF f 1 0 1 1 = (f.1 + f.2.1 + f.2.2, f.2.1 + 2 * f.2.2, f.2.2) := by
  unfold actF
  refine fm_ext ?_ ?_ ?_ <;> (dsimp only; (try unfold fA); (try unfold fB); grind)
/-- a matrix of numbers not below 0 is a way along the river -/
theorem rv_way : ∀ (n : Nat) (f : Fm) (p q r s : Int), 0 ≤ p → 0 ≤ q → 0 ≤ r → 0 ≤ s → p * s - q * r = 1 → p + q + r + s ≤ (n : Int) → Riv f → Riv (actF f p q r s) → ∃ k, nxN k f = actF f p q r s
  | 0, f, p, q, r, s, p0, q0, r0, s0, hd, hn, _, _ => by
    have e1 : p = 0 := by omega
    have e2 : q = 0 := by omega
    rw [e1, e2] at hd
    omega
  | n + 1, f, p, q, r, s, p0, q0, r0, s0, hd, hn, hf, hg => by
    obtain ⟨a, b, c⟩ := f
    obtain ⟨ha, hc⟩ := hf
    obtain ⟨g1, g2⟩ := hg
    dsimp only [actF] at ha hc g1 g2
    by_cases c1 : r ≤ p ∧ s ≤ q
    · -- R in front
      obtain ⟨c1, c2⟩ := c1
      have e : actF (a, b, c) p q r s = actF (actF (a, b, c) 1 1 0 1) (p - r) (q - s) r s := by
        rw [actF_mul]
        congr 1 <;> omega
      have hneg : a + b + c < 0 := by
        by_cases z : a + b + c < 0
        · exact z
        · exfalso
          have e2 : fA a b c q s = a * ((q - s) * (q - s)) + (a + (a + b + c) + -c) * ((q - s) * s) + (a + b + c) * (s * s) := by unfold fA; grind
          have t1 := Int.mul_nonneg (Int.le_of_lt ha) (Int.mul_nonneg (show 0 ≤ q - s by omega) (show 0 ≤ q - s by omega))
          have t2 := Int.mul_nonneg (show 0 ≤ a + (a + b + c) + -c by omega) (Int.mul_nonneg (show 0 ≤ q - s by omega) s0)
          have t3 := Int.mul_nonneg (show 0 ≤ a + b + c by omega) (Int.mul_nonneg s0 s0)
          omega
      have en : nxR (a, b, c) = actF (a, b, c) 1 1 0 1 := by
        rw [actF_R]
        unfold nxR
        rw [if_pos hneg]
      have rs : 0 < r + s := by
        rcases Int.lt_or_le 0 (r + s) with k | k
        · exact k
        · have e3 : r = 0 := by omega
          have e4 : s = 0 := by omega
          rw [e3, e4] at hd
          omega
      obtain ⟨k, hk⟩ := rv_way n (actF (a, b, c) 1 1 0 1) (p - r) (q - s) r s (by omega) (by omega) r0 s0 (by rw [← hd]; grind) (by omega) (by rw [actF_R]; exact ⟨ha, hneg⟩) (by rw [← e]; exact ⟨g1, g2⟩)
      exact ⟨k + 1, by rw [e, ← hk, ← en]; rfl⟩
    · by_cases c2 : p ≤ r ∧ q ≤ s
      · obtain ⟨c2, c3⟩ := c2
        have e : actF (a, b, c) p q r s = actF (actF (a, b, c) 1 0 1 1) p q (r - p) (s - q) := by
          rw [actF_mul]
          congr 1 <;> omega
        have hpos : 0 < a + b + c := by
          by_cases z : 0 < a + b + c
          · exact z
          · exfalso
            have e2 : fA a b c p r = (a + b + c) * (p * p) + ((a + b + c) + -a + c) * (p * (r - p)) + c * ((r - p) * (r - p)) := by unfold fA; grind
            have t1 := Int.mul_nonneg (show 0 ≤ -(a + b + c) by omega) (Int.mul_nonneg p0 p0)
            have t2 := Int.mul_nonneg (show 0 ≤ -((a + b + c) + -a + c) by omega) (Int.mul_nonneg p0 (show 0 ≤ r - p by omega))
            have t3 := Int.mul_nonneg (show 0 ≤ -c by omega) (Int.mul_nonneg (show 0 ≤ r - p by omega) (show 0 ≤ r - p by omega))
            rw [Int.neg_mul] at t1 t2 t3
            omega
        have en : nxR (a, b, c) = actF (a, b, c) 1 0 1 1 := by
          rw [actF_L]
          unfold nxR
          rw [if_neg (by dsimp only; omega)]
        have pq : 0 < p + q := by
          rcases Int.lt_or_le 0 (p + q) with k | k
          · exact k
          · have e3 : p = 0 := by omega
            have e4 : q = 0 := by omega
            rw [e3, e4] at hd
            omega
        obtain ⟨k, hk⟩ := rv_way n (actF (a, b, c) 1 0 1 1) p q (r - p) (s - q) p0 q0 (by omega) (by omega) (by rw [← hd]; grind) (by omega) (by rw [actF_L]; exact ⟨hpos, hc⟩) (by rw [← e]; exact ⟨g1, g2⟩)
        exact ⟨k + 1, by rw [e, ← hk, ← en]; rfl⟩
      · -- neither row above the other: the unit
        have key : p = 1 ∧ q = 0 ∧ r = 0 ∧ s = 1 := by
          by_cases z : r < p
          · have zs : q < s := by omega
            have t := Int.mul_le_mul (show r + 1 ≤ p by omega) (show q + 1 ≤ s by omega) (by omega) p0
            have e2 : (r + 1) * (q + 1) = q * r + r + q + 1 := by grind
            have r00 : r = 0 := by omega
            have q00 : q = 0 := by omega
            rw [r00, q00] at hd
            have ps : p * s = 1 := by omega
            have p1 : p = 1 := by
              rcases Int.lt_or_le 1 p with k | k
              · have := Int.mul_le_mul (show 2 ≤ p by omega) (show 1 ≤ s by omega) (by decide) p0
                omega
              · omega
            rw [p1] at ps
            exact ⟨p1, q00, r00, by omega⟩
          · exfalso
            have zs : s < q := by omega
            have pr : p ≤ r := by omega
            have t := Int.mul_le_mul pr (show s ≤ q by omega) s0 r0
            have : r * q = q * r := Int.mul_comm _ _
            omega
        obtain ⟨rfl, rfl, rfl, rfl⟩ := key
        exact ⟨0, by rw [actF_one]; rfl⟩
theorem rv_one {f : Fm} {p q r s : Int} (hd : p * s - q * r = 1) (hf : Riv f) (hg : Riv (actF f p q r s)) : (∃ k, nxN k f = actF f p q r s) ∨ ∃ k, nxN k (actF f p q r s) = f := by
  have main : ∀ p q r s : Int, 0 ≤ p → p * s - q * r = 1 → Riv (actF f p q r s) → (∃ k, nxN k f = actF f p q r s) ∨ ∃ k, nxN k (actF f p q r s) = f := by
    intro p q r s p0 hd hg
    rcases rv_signs hf.1 hf.2 hd hg.1 hg.2 p0 with ⟨r0, q0, s0⟩ | ⟨r0, q0, s0⟩ | ⟨p1, r0, q0, s0⟩ | ⟨p1, r0, q0, s0⟩
    · exact .inl (rv_way (p + q + r + s).toNat f p q r s p0 q0 r0 s0 hd (by omega) hf hg)
    · right
      have e := actF_inv f hd
      have h := rv_way (s + -q + -r + p).toNat (actF f p q r s) s (-q) (-r) p s0 (by omega) (by omega) p0 (by rw [← hd]; grind) (by omega) hg (by rw [e]; exact hf)
      rw [e] at h
      exact h
    · rw [p1] at hd
      have h1 := Int.mul_nonneg_of_nonpos_of_nonpos q0 r0
      omega
    · rw [p1] at hd
      have h1 := Int.mul_nonneg q0 r0
      omega
  rcases Int.le_total 0 p with p0 | p0
  · exact main p q r s p0 hd hg
  · have e := actF_neg f p q r s
    have h := main (-p) (-q) (-r) (-s) (by omega) (by rw [← hd]; grind) (by rw [e]; exact hg)
    rw [e] at h
    exact h

/-! ### the turnings are the reduced forms -/
def IFf (D : Int) (f : Fm) : Prop := IF D f.1 f.2.1 f.2.2
def RDf (D : Int) (f : Fm) : Prop := RedI D f.1 f.2.1
def rdF (f : Fm) : Prop := f.1 * f.2.2 < 0 ∧ 0 < f.1 + f.2.1 + f.2.2 ∧ f.1 - f.2.1 + f.2.2 < 0
theorem IFf.act {D : Int} {f : Fm} (F : IFf D f) {p q r s : Int} (hd : p * s - q * r = 1) : IFf D (actF f p q r s) := by
  refine ⟨?_, F.d0, F.d1, F.ns⟩
  show dsc (fA f.1 f.2.1 f.2.2 p r) (fB f.1 f.2.1 f.2.2 p q r s) (fA f.1 f.2.1 f.2.2 q s) = D
  rw [dsc_act, hd, F.d]
  omega
theorem IFf.sum {D : Int} {f : Fm} (F : IFf D f) : f.1 + f.2.1 + f.2.2 ≠ 0 := by
  intro h
  have e := F.d
  unfold dsc at e
  refine not_sq F.d0 F.ns (f.1 - f.2.2) ?_
  rw [← e, show f.2.1 = -f.1 - f.2.2 by omega]
  grind
theorem sq_lt {x r D : Int} (x0 : 0 ≤ x) (h : x ≤ r) (h1 : r * r < D) : x * x < D := by
  have := Int.mul_le_mul h h x0 (by omega)
  omega
theorem sq_gt {x r D : Int} (r0 : 0 ≤ r) (h : r + 1 ≤ x) (h1 : D < (r + 1) * (r + 1)) : D < x * x := by
  have := Int.mul_le_mul h h (by omega) (by omega)
  omega
theorem root_le {x r D : Int} (r0 : 0 ≤ r) (h1 : D < (r + 1) * (r + 1)) (h : x * x < D) : x ≤ r := by
  by_cases z : x ≤ r
  · exact z
  · have := Int.mul_le_mul (show r + 1 ≤ x by omega) (show r + 1 ≤ x by omega) (by omega) (by omega)
    omega
theorem root_gt {x r D : Int} (x0 : 0 ≤ x) (h1 : r * r < D) (h : D < x * x) : r < x := by
  by_cases z : r < x
  · exact z
  · have := Int.mul_le_mul (show x ≤ r by omega) (show x ≤ r by omega) x0 (by omega)
    omega
/-- reduced forms, without a root -/
theorem red_iff {D : Int} {f : Fm} (F : IFf D f) : RDf D f ↔ rdF f := by
  obtain ⟨a, b, c⟩ := f
  obtain ⟨r0, r1, r2, r3⟩ := F.root
  have e := F.d
  have a0 := F.a0
  have c0 := F.c0
  unfold RDf rdF RedI
  dsimp only [IFf] at *
  unfold dsc at e
  generalize rootI D = r at *
  have e2 : b * b - 4 * (a * c) = D := by rw [← e]; grind
  constructor
  · rintro ⟨h1, h2, h3, h4⟩
    have bb := sq_lt (by omega) h2 r2
    have ac : a * c < 0 := by omega
    refine ⟨ac, ?_⟩
    -- (2|a| - b)^2 < D < (2|a| + b)^2
    have hA : (a.natAbs : Int) * (a.natAbs : Int) = a * a := sq_abs a
    have u2 : D < (2 * (a.natAbs : Int) + b) * (2 * (a.natAbs : Int) + b) := sq_gt r0 (by omega) r3
    have u1 : (2 * (a.natAbs : Int) - b) * (2 * (a.natAbs : Int) - b) < D := by
      rcases Int.le_total 0 (2 * (a.natAbs : Int) - b) with k | k
      · exact sq_lt k h3 r2
      · have := sq_lt (x := b - 2 * (a.natAbs : Int)) (by omega) (by omega) r2
        have e3 : (2 * (a.natAbs : Int) - b) * (2 * (a.natAbs : Int) - b) = (b - 2 * (a.natAbs : Int)) * (b - 2 * (a.natAbs : Int)) := by grind
        omega
    have v1 : (2 * (a.natAbs : Int) - b) * (2 * (a.natAbs : Int) - b) = 4 * ((a.natAbs : Int) * ((a.natAbs : Int) - b)) + b * b := by grind
    have v2 : (2 * (a.natAbs : Int) + b) * (2 * (a.natAbs : Int) + b) = 4 * ((a.natAbs : Int) * ((a.natAbs : Int) + b)) + b * b := by grind
    have w : a * c = -((a.natAbs : Int) * (c.natAbs : Int)) := by
      have : ((a * c).natAbs : Int) = (a.natAbs : Int) * (c.natAbs : Int) := by rw [Int.natAbs_mul]; rfl
      omega
    have A0 : 0 < (a.natAbs : Int) := by omega
    have x1 : (a.natAbs : Int) - b < (c.natAbs : Int) := Int.lt_of_mul_lt_mul_left (a := (a.natAbs : Int)) (by omega) (by omega)
    have x2 : (c.natAbs : Int) < (a.natAbs : Int) + b := Int.lt_of_mul_lt_mul_left (a := (a.natAbs : Int)) (by omega) (by omega)
    rcases Int.lt_or_gt_of_ne a0 with k | k
    · have hc : 0 < c := by
        rcases Int.lt_or_gt_of_ne c0 with l | l
        · have := Int.mul_pos_of_neg_of_neg k l
          omega
        · exact l
      omega
    · have hc : c < 0 := by
        rcases Int.lt_or_gt_of_ne c0 with l | l
        · exact l
        · have := Int.mul_pos k l
          omega
      omega
  · rintro ⟨ac, h1, h2⟩
    have w : a * c = -((a.natAbs : Int) * (c.natAbs : Int)) := by
      have : ((a * c).natAbs : Int) = (a.natAbs : Int) * (c.natAbs : Int) := by rw [Int.natAbs_mul]; rfl
      omega
    have hs : (0 < a ∧ c < 0) ∨ (a < 0 ∧ 0 < c) := by
      rcases Int.lt_or_gt_of_ne a0 with k | k
      · rcases Int.lt_or_gt_of_ne c0 with l | l
        · have := Int.mul_pos_of_neg_of_neg k l
          omega
        · exact .inr ⟨k, l⟩
      · rcases Int.lt_or_gt_of_ne c0 with l | l
        · exact .inl ⟨k, l⟩
        · have := Int.mul_pos k l
          omega
    have x1 : (a.natAbs : Int) - b < (c.natAbs : Int) := by omega
    have x2 : (c.natAbs : Int) < (a.natAbs : Int) + b := by omega
    have b0 : 0 < b := by omega
    have A0 : 0 < (a.natAbs : Int) := by omega
    have y1 := Int.mul_lt_mul_of_pos_left x1 A0
    have y2 := Int.mul_lt_mul_of_pos_left x2 A0
    have v1 : (2 * (a.natAbs : Int) - b) * (2 * (a.natAbs : Int) - b) = 4 * ((a.natAbs : Int) * ((a.natAbs : Int) - b)) + b * b := by grind
    have v2 : (2 * (a.natAbs : Int) + b) * (2 * (a.natAbs : Int) + b) = 4 * ((a.natAbs : Int) * ((a.natAbs : Int) + b)) + b * b := by grind
    refine ⟨b0, root_le r0 r3 (by omega), ?_, root_gt (by omega) r2 (by omega)⟩
    exact root_le r0 r3 (by omega)
def rho (D : Int) (f : Fm) : Fm := actF f 0 (-1) 1 (nN D f.2.1 f.2.2)
def rhoN (D : Int) : Nat → Fm → Fm
  | 0, f => f
  | k + 1, f => rhoN D k (rho D f)
theorem rhoN_add (D : Int) : ∀ (j k : Nat) (f : Fm), rhoN D (j + k) f = rhoN D k (rhoN D j f)
  | 0, k, f => by rw [Nat.zero_add]; rfl
  | j + 1, k, f => by
    rw [show j + 1 + k = (j + k) + 1 by omega]
    exact rhoN_add D j k (rho D f)
theorem rho_eq {D : Int} {f : Fm} (F : IFf D f) : rho D f = (f.2.2, bN D f.2.1 f.2.2, f.1 - f.2.1 * nN D f.2.1 f.2.2 + f.2.2 * nN D f.2.1 f.2.2 * nN D f.2.1 f.2.2) := by
  obtain ⟨v1, v2, v3⟩ := bN_spec (D := D) (b := f.2.1) F.c0
  unfold rho actF
  refine fm_ext ?_ ?_ ?_
  · dsimp only
    unfold fA
    grind
  · dsimp only
    rw [← v3]
    unfold fB
    grind
  · dsimp only
    unfold fA
    grind
theorem rho_if {D : Int} {f : Fm} (F : IFf D f) : IFf D (rho D f) := F.act (by omega)
theorem rho_red {D : Int} {f : Fm} (F : IFf D f) (R : RDf D f) : RDf D (rho D f) := by
  rw [rho_eq F]
  exact F.nb R
theorem rho_only {D : Int} {f : Fm} {n : Int} (F : IFf D f) (h : rdF (actF f 0 (-1) 1 n)) : actF f 0 (-1) 1 n = rho D f := by
  have h2 := (red_iff (F.act (p := 0) (q := -1) (r := 1) (s := n) (by omega))).mpr h
  by_cases z : n = nN D f.2.1 f.2.2
  · rw [z]
    rfl
  · refine absurd ?_ (F.only z)
    have e1 : (actF f 0 (-1) 1 n).1 = f.2.2 := by unfold actF fA; grind
    have e2 : (actF f 0 (-1) 1 n).2.1 = -f.2.1 + 2 * f.2.2 * n := by unfold actF fB; grind
    unfold RDf at h2
    rw [e1, e2] at h2
    exact h2
theorem nxR_neg {f : Fm} (h : f.1 + f.2.1 + f.2.2 < 0) : nxR f = actF f 1 1 0 1 := by
  rw [actF_R]
  unfold nxR
  rw [if_pos h]
theorem nxR_pos {f : Fm} (h : ¬ f.1 + f.2.1 + f.2.2 < 0) : nxR f = actF f 1 0 1 1 := by
  rw [actF_L]
  unfold nxR
  rw [if_neg h]
def PhL (D : Int) (k : Nat) : Prop := ∀ (F X : Fm) (j : Int), IFf D F → X = actF F 1 0 j 1 → 0 < X.1 → X.2.2 < 0 → 0 < X.1 - X.2.1 + X.2.2 → rdF (nxN k X) → ∃ m, rhoN D m F = nxN k X
def PhR (D : Int) (k : Nat) : Prop := ∀ (F F0 X : Fm) (j : Int), IFf D F → actF F0 0 (-1) 1 0 = rho D F → X = actF F0 1 j 0 1 → 0 < X.1 → X.2.2 < 0 → X.1 - X.2.1 + X.2.2 < 0 → rdF (nxN k X) → ∃ m, rhoN D m F = nxN k X
theorem ph_two {D : Int} {F F0 X : Fm} {j : Int} (hF : IFf D F) (h0 : actF F0 0 (-1) 1 0 = rho D F) (hX : X = actF F0 1 j 0 1) (hr : rdF X) : rho D (rho D F) = X := by
  have e : actF (rho D F) 0 (-1) 1 j = X := by
    rw [← h0, actF_mul, hX, ← actF_neg F0 1 j 0 1]
    congr 1 <;> omega
  rw [← e] at hr ⊢
  exact (rho_only (rho_if hF) hr).symm
theorem ph_all (D : Int) : ∀ k, PhL D k ∧ PhR D k := by
  intro k
  induction k with
  | zero =>
    constructor
    · intro F X j hF hX x1 x2 x3 hr
      have := hr.2.2
      show ∃ m, rhoN D m F = X
      have : X.1 - X.2.1 + X.2.2 < 0 := hr.2.2
      omega
    · intro F F0 X j hF h0 hX x1 x2 x3 hr
      exact ⟨2, ph_two hF h0 hX hr⟩
  | succ k ih =>
    obtain ⟨ihL, ihR⟩ := ih
    have goL : ∀ (F X : Fm) (j : Int), IFf D F → X = actF F 1 0 j 1 → 0 < X.1 → X.2.2 < 0 → 0 < X.1 + X.2.1 + X.2.2 → rdF (nxN (k + 1) X) → ∃ m, rhoN D m F = nxN (k + 1) X := by
      intro F X j hF hX x1 x2 hs hr
      have en : nxN (k + 1) X = nxN k (actF X 1 0 1 1) := by
        show nxN k (nxR X) = _
        rw [nxR_pos (by omega)]
      rw [en] at hr ⊢
      have e2 : actF X 1 0 1 1 = actF F 1 0 (j + 1) 1 := by
        rw [hX, actF_mul]
        congr 1 <;> omega
      have e3 := actF_L X
      refine ihL F _ (j + 1) hF e2 ?_ ?_ ?_ hr
      · rw [e3]; exact hs
      · rw [e3]; exact x2
      · rw [e3]; dsimp only; omega
    constructor
    · intro F X j hF hX x1 x2 x3 hr
      have hXF : IFf D X := by rw [hX]; exact hF.act (by omega)
      by_cases hs : X.1 + X.2.1 + X.2.2 < 0
      · have en : nxN (k + 1) X = nxN k (actF X 1 1 0 1) := by
          show nxN k (nxR X) = _
          rw [nxR_neg hs]
        rw [en] at hr ⊢
        have e3 := actF_R X
        have eS : actF X 0 (-1) 1 0 = (X.2.2, -X.2.1, X.1) := by
          unfold actF
          refine fm_ext ?_ ?_ ?_ <;> (dsimp only; (try unfold fA); (try unfold fB); grind)
        have eJ : actF X 0 (-1) 1 0 = actF F 0 (-1) 1 (-j) := by
          rw [hX, actF_mul]
          congr 1 <;> omega
        have hrd : rdF (actF F 0 (-1) 1 (-j)) := by
          rw [← eJ, eS]
          refine ⟨?_, ?_, ?_⟩
          · exact Int.mul_neg_of_neg_of_pos x2 x1
          · show 0 < X.2.2 + -X.2.1 + X.1
            omega
          · show X.2.2 - -X.2.1 + X.1 < 0
            omega
        refine ihR F X _ 1 hF (eJ.trans (rho_only hF hrd)) rfl ?_ ?_ ?_ hr
        · rw [e3]; exact x1
        · rw [e3]; exact hs
        · rw [e3]; dsimp only; omega
      · have := hXF.sum
        exact goL F X j hF hX x1 x2 (by omega) hr
    · intro F F0 X j hF h0 hX x1 x2 x3 hr
      by_cases hs : X.1 + X.2.1 + X.2.2 < 0
      · have en : nxN (k + 1) X = nxN k (actF X 1 1 0 1) := by
          show nxN k (nxR X) = _
          rw [nxR_neg hs]
        rw [en] at hr ⊢
        have e3 := actF_R X
        have e2 : actF X 1 1 0 1 = actF F0 1 (j + 1) 0 1 := by
          rw [hX, actF_mul]
          congr 1 <;> omega
        refine ihR F F0 _ (j + 1) hF h0 e2 ?_ ?_ ?_ hr
        · rw [e3]; exact x1
        · rw [e3]; exact hs
        · rw [e3]; dsimp only; omega
      · have hF2 : IFf D (rho D (rho D F)) := rho_if (rho_if hF)
        have hsum : 0 < X.1 + X.2.1 + X.2.2 := by
          have hX0 : IFf D X := by
            have e : actF (rho D F) 0 (-1) 1 j = X := by
              rw [← h0, actF_mul, hX, ← actF_neg F0 1 j 0 1]
              congr 1 <;> omega
            rw [← e]
            exact (rho_if hF).act (by omega)
          have := hX0.sum
          omega
        have hrX : rdF X := ⟨Int.mul_neg_of_pos_of_neg x1 x2, hsum, x3⟩
        have e2 := ph_two hF h0 hX hrX
        rw [e2] at hF2
        obtain ⟨m, hm⟩ := goL X X 0 hF2 (actF_one X).symm x1 x2 hsum hr
        exact ⟨m + 2, by rw [Nat.add_comm, rhoN_add]; show rhoN D m (rho D (rho D F)) = _; rw [e2]; exact hm⟩
/-- reduced forms with a > 0 that stand on one river are in one cycle -/
theorem rv_cycle {D : Int} {F : Fm} {k : Nat} (hF : IFf D F) (ha : 0 < F.1) (hr : rdF F) (hg : rdF (nxN k F)) : ∃ m, rhoN D m F = nxN k F := by
  have hc : F.2.2 < 0 := by
    have := hr.1
    rcases Int.lt_or_le F.2.2 0 with l | l
    · exact l
    · have := Int.mul_nonneg (Int.le_of_lt ha) l
      omega
  cases k with
  | zero => exact ⟨0, rfl⟩
  | succ k =>
    have hs := hr.2.1
    have en : nxN (k + 1) F = nxN k (actF F 1 0 1 1) := by
      show nxN k (nxR F) = _
      rw [nxR_pos (by omega)]
    rw [en] at hg ⊢
    have e3 := actF_L F
    refine (ph_all D k).1 F _ 1 hF rfl ?_ ?_ ?_ hg
    · rw [e3]; exact hs
    · rw [e3]; exact hc
    · rw [e3]; dsimp only; omega

/-! ### it comes round -/
theorem IFf.mir {D : Int} {f : Fm} (F : IFf D f) : IFf D (f.2.2, f.2.1, f.1) := by
  refine ⟨?_, F.d0, F.d1, F.ns⟩
  have e := F.d
  unfold dsc at e ⊢
  dsimp only
  rw [← e]
  grind
theorem red_sym {D : Int} {f : Fm} (F : IFf D f) (R : RDf D f) : RedI D f.2.2 f.2.1 := by
  have h := (red_iff F).mp R
  have h2 : rdF (f.2.2, f.2.1, f.1) := by
    refine ⟨?_, ?_, ?_⟩
    · show f.2.2 * f.1 < 0
      rw [Int.mul_comm]
      exact h.1
    · show 0 < f.2.2 + f.2.1 + f.1
      have := h.2.1
      omega
    · show f.2.2 - f.2.1 + f.1 < 0
      have := h.2.2
      omega
  exact (red_iff F.mir).mpr h2
theorem rho_inj {D : Int} {f g : Fm} (F : IFf D f) (G : IFf D g) (Rf : RDf D f) (Rg : RDf D g) (h : rho D f = rho D g) : f = g := by
  rw [rho_eq F, rho_eq G] at h
  have h1 : f.2.2 = g.2.2 := congrArg (fun t : Fm => t.1) h
  have h2 : bN D f.2.1 f.2.2 = bN D g.2.1 g.2.2 := congrArg (fun t : Fm => t.2.1) h
  obtain ⟨_, _, v3⟩ := bN_spec (D := D) (b := f.2.1) F.c0
  obtain ⟨_, _, w3⟩ := bN_spec (D := D) (b := g.2.1) G.c0
  obtain ⟨p1, p2, p3, p4⟩ := red_sym F Rf
  obtain ⟨q1, q2, q3, q4⟩ := red_sym G Rg
  have c0 := F.c0
  rw [← h2, ← h1] at w3
  rw [← h1] at q3 q4
  have hb : f.2.1 = g.2.1 := by
    have e : f.2.1 - g.2.1 = 2 * (f.2.2 * (nN D f.2.1 f.2.2 - nN D g.2.1 f.2.2)) := by
      have : 2 * f.2.2 * nN D f.2.1 f.2.2 - 2 * f.2.2 * nN D g.2.1 f.2.2 = 2 * (f.2.2 * (nN D f.2.1 f.2.2 - nN D g.2.1 f.2.2)) := by grind
      omega
    by_cases z : nN D f.2.1 f.2.2 - nN D g.2.1 f.2.2 = 0
    · rw [z, Int.mul_zero] at e
      omega
    · have e2 : ((f.2.2 * (nN D f.2.1 f.2.2 - nN D g.2.1 f.2.2)).natAbs : Int) = (f.2.2.natAbs : Int) * ((nN D f.2.1 f.2.2 - nN D g.2.1 f.2.2).natAbs : Int) := by
        rw [Int.natAbs_mul]
        rfl
      have t := Int.mul_le_mul_of_nonneg_left (show 1 ≤ ((nN D f.2.1 f.2.2 - nN D g.2.1 f.2.2).natAbs : Int) by omega) (show 0 ≤ (f.2.2.natAbs : Int) by omega)
      omega
  refine fm_ext ?_ hb h1
  have e1 := F.d
  have e2 := G.d
  unfold dsc at e1 e2
  rw [← hb, ← h1, ← e1] at e2
  have e3 : f.2.2 * (4 * (f.1 - g.1)) = 0 := by grind
  have := (Int.mul_eq_zero.mp e3).resolve_left c0
  omega
theorem rhoN_ok {D : Int} : ∀ (k : Nat) {f : Fm}, IFf D f → RDf D f → IFf D (rhoN D k f) ∧ RDf D (rhoN D k f)
  | 0, _, F, R => ⟨F, R⟩
  | k + 1, _, F, R => rhoN_ok k (rho_if F) (rho_red F R)
theorem rhoN_inj {D : Int} : ∀ (k : Nat) {f g : Fm}, IFf D f → RDf D f → IFf D g → RDf D g → rhoN D k f = rhoN D k g → f = g
  | 0, _, _, _, _, _, _, h => h
  | k + 1, _, _, F, R, G, S, h => rho_inj F G R S (rhoN_inj k (rho_if F) (rho_red F R) (rho_if G) (rho_red G S) h)
theorem nodup_sub_len {α : Type} [DecidableEq α] : ∀ {l m : List α}, l.Nodup → (∀ x ∈ l, x ∈ m) → l.length ≤ m.length
  | [], _, _, _ => Nat.zero_le _
  | a :: l, m, h, hs => by
    obtain ⟨h1, h2⟩ := List.nodup_cons.mp h
    have ha := hs a List.mem_cons_self
    have := nodup_sub_len (l := l) (m := m.erase a) h2 (fun x hx => by
      refine (List.mem_erase_of_ne ?_).mpr (hs x (List.mem_cons_of_mem _ hx))
      rintro rfl
      exact h1 hx)
    rw [List.length_erase_of_mem ha] at this
    have := List.length_pos_of_mem ha
    rw [List.length_cons]
    omega
/-- a row of N + 1 that lie in a box of N has two alike -/
theorem two_alike {α : Type} [DecidableEq α] (u : Nat → α) (box : List α) (N : Nat) (hb : ∀ i, i ≤ N → u i ∈ box) (hN : box.length ≤ N) : ∃ i j, i < j ∧ j ≤ N ∧ u i = u j := by
  by_cases z : ∃ i j, i < j ∧ j ≤ N ∧ u i = u j
  · exact z
  · exfalso
    have hnd : ((List.range (N + 1)).map u).Nodup := by
      refine List.pairwise_map.mpr ((List.pairwise_lt_range (n := N + 1)).imp_of_mem ?_)
      intro a b ha hb hlt e
      have := List.mem_range.mp hb
      exact z ⟨a, b, hlt, by omega, e⟩
    have := nodup_sub_len hnd (m := box) (fun x hx => by
      obtain ⟨i, hi, rfl⟩ := List.mem_map.mp hx
      have := List.mem_range.mp hi
      exact hb i (by omega))
    rw [List.length_map, List.length_range] at this
    omega
/-- a cycle's length: the first return -/
structure Cyc (D : Int) (f : Fm) (n : Nat) : Prop where
  n0 : 0 < n
  back : rhoN D n f = f
  first : ∀ k, 0 < k → k < n → rhoN D k f ≠ f
theorem cyc_of {D : Int} {f : Fm} (F : IFf D f) (R : RDf D f) {box : List Fm} (hb : ∀ i, rhoN D i f ∈ box) : ∃ n, Cyc D f n ∧ n ≤ box.length := by
  obtain ⟨i, j, hij, hj, e⟩ := two_alike (fun i => rhoN D i f) box box.length (fun i _ => hb i) (Nat.le_refl _)
  have e2 : rhoN D (j - i) f = f := by
    have h1 : rhoN D i (rhoN D (j - i) f) = rhoN D i f := by
      rw [← rhoN_add, show j - i + i = j by omega]
      exact e.symm
    exact rhoN_inj i (rhoN_ok (j - i) F R).1 (rhoN_ok (j - i) F R).2 F R h1
  -- the least one
  have least : ∀ m, 0 < m → rhoN D m f = f → ∃ n, Cyc D f n ∧ n ≤ m := by
    intro m
    induction m using Nat.strongRecOn with
    | _ m ih =>
      intro m0 hm
      by_cases z : ∃ k, 0 < k ∧ k < m ∧ rhoN D k f = f
      · obtain ⟨k, k0, km, hk⟩ := z
        obtain ⟨n, hn, hl⟩ := ih k km k0 hk
        exact ⟨n, hn, by omega⟩
      · exact ⟨m, ⟨m0, hm, fun k k0 km hk => z ⟨k, k0, km, hk⟩⟩, Nat.le_refl _⟩
  obtain ⟨n, hn, hl⟩ := least (j - i) (by omega) e2
  exact ⟨n, hn, by omega⟩
theorem rhoN_mul {D : Int} {f : Fm} {n : Nat} (h : rhoN D n f = f) : ∀ k, rhoN D (n * k) f = f
  | 0 => rfl
  | k + 1 => by rw [Nat.mul_succ, Nat.add_comm, rhoN_add, h, rhoN_mul h k]
theorem rhoN_back {D : Int} {f g : Fm} {n k : Nat} (n0 : 0 < n) (h : rhoN D n f = f) (e : rhoN D k f = g) : ∃ m, rhoN D m g = f := by
  refine ⟨n * (k + 1) - k, ?_⟩
  rw [← e, ← rhoN_add]
  have hle : k ≤ n * (k + 1) := by
    have := Nat.mul_le_mul_right (k + 1) n0
    omega
  rw [show k + (n * (k + 1) - k) = n * (k + 1) by omega]
  exact rhoN_mul h (k + 1)
/-- reduced forms of one class are in one cycle -/
theorem class_cycle {D : Int} {F G : Fm} {p q r s : Int} (per : ∀ f, IFf D f → RDf D f → ∃ n, 0 < n ∧ rhoN D n f = f) (hF : IFf D F) (hG : IFf D G) (rF : RDf D F) (rG : RDf D G) (hd : p * s - q * r = 1) (e : G = actF F p q r s) : ∃ m, rhoN D m F = G := by
  have pos : ∀ (F G : Fm) (p q r s : Int), IFf D F → IFf D G → RDf D F → RDf D G → p * s - q * r = 1 → G = actF F p q r s → 0 < F.1 → 0 < G.1 → ∃ m, rhoN D m F = G := by
    intro F G p q r s hF hG rF rG hd e aF aG
    have dF := (red_iff hF).mp rF
    have dG := (red_iff hG).mp rG
    have cneg : ∀ f : Fm, 0 < f.1 → rdF f → f.2.2 < 0 := by
      intro f ha h
      rcases Int.lt_or_le f.2.2 0 with l | l
      · exact l
      · have := Int.mul_nonneg (Int.le_of_lt ha) l
        have := h.1
        omega
    rcases rv_one hd (f := F) ⟨aF, cneg F aF dF⟩ (by rw [← e]; exact ⟨aG, cneg G aG dG⟩) with ⟨k, hk⟩ | ⟨k, hk⟩
    · rw [← e] at hk
      obtain ⟨m, hm⟩ := rv_cycle hF aF dF (k := k) (by rw [hk]; exact dG)
      exact ⟨m, hm.trans hk⟩
    · rw [← e] at hk
      obtain ⟨m, hm⟩ := rv_cycle hG aG dG (k := k) (by rw [hk]; exact dF)
      obtain ⟨n, n0, hn⟩ := per G hG rG
      exact rhoN_back n0 hn (hm.trans hk)
  have flip : ∀ f : Fm, IFf D f → RDf D f → ¬ 0 < f.1 → 0 < (rho D f).1 := by
    intro f hf rf h
    rw [rho_eq hf]
    show 0 < f.2.2
    have h1 := ((red_iff hf).mp rf).1
    have a0 := hf.a0
    rcases Int.lt_or_le 0 f.2.2 with l | l
    · exact l
    · have := Int.mul_nonneg_of_nonpos_of_nonpos (show f.1 ≤ 0 by omega) l
      omega
  -- behind one step where a is below 0
  have half : ∀ (F : Fm) (p q r s : Int), IFf D F → RDf D F → p * s - q * r = 1 → G = actF F p q r s → 0 < F.1 → ∃ m, rhoN D m F = G := by
    intro F p q r s hF rF hd e aF
    by_cases aG : 0 < G.1
    · exact pos F G p q r s hF hG rF rG hd e aF aG
    · have key : ∀ n, actF G 0 (-1) 1 n = actF F (p * 0 + q * 1) (p * -1 + q * n) (r * 0 + s * 1) (r * -1 + s * n) := fun n => by
        rw [e, actF_mul]
      obtain ⟨m, hm⟩ := pos F (rho D G) _ _ _ _ hF (rho_if hG) rF (rho_red hG rG) (by rw [← hd]; grind) (key (nN D G.2.1 G.2.2)) aF (flip G hG rG aG)
      obtain ⟨n, n0, hn⟩ := per G hG rG
      obtain ⟨t, ht⟩ := rhoN_back (k := 1) n0 hn rfl
      exact ⟨m + t, by rw [rhoN_add, hm]; exact ht⟩
  by_cases aF : 0 < F.1
  · exact half F p q r s hF rF hd e aF
  · have eF := actF_inv F (p := 0) (q := -1) (r := 1) (s := nN D F.2.1 F.2.2) (by omega)
    have e2 : G = actF (rho D F) (nN D F.2.1 F.2.2 * p + - -1 * r) (nN D F.2.1 F.2.2 * q + - -1 * s) (-1 * p + 0 * r) (-1 * q + 0 * s) := by
      rw [e]
      conv => lhs; rw [← eF]
      rw [actF_mul]
      rfl
    obtain ⟨m, hm⟩ := half (rho D F) _ _ _ _ (rho_if hF) (rho_red hF rF) (by rw [← hd]; grind) e2 (flip F hF rF aF)
    exact ⟨m + 1, hm⟩

/-! ### min of a list of data -/
def rMinD (K : PySem.W.Frag) (α : Type) [DecidableEq α] [PySem.W.DatumOrd α] : List V → Hp → VK → Prop := fun vs H Q => ∃ (a : Addr) (ys : List V) (x : α) (xs : List α), vs = [V.ref a] ∧ SqL K H a ys ∧ DpAll K H ys ((x :: xs).map PySem.W.Datum.toD) ∧
  ∀ (i : Nat) (y : V), ys[i]? = some y → (x :: xs)[i]? = some (PySem.W.minOf x xs) → Q y H
theorem cr_minD {X : Cx} {α : Type} [DecidableEq α] [PySem.W.DatumOrd α] (hc : X.calm = true) (hu : X.A.units + 1 + PySem.W.Datum.depth α < cLine) : CallR X (.builtin "min") (rMinD X.K α) := by
  intro pins s σ H vs us Q I r h
  obtain ⟨a, ys, x, xs, rfl, hs, hd, q⟩ := h
  obtain ⟨its, rv, hl, _⟩ := I.list hs
  rw [Vals.ref1 r]
  obtain ⟨as, ra⟩ := Dp.readsAll I _ _ its hd rv
  refine PySem.W.min_list_data (vs := its.toArray) (I.ok.hd hc) hl.isList ra (PySem.W.alikeAll_datum (x :: xs)) (PySem.W.room_all (PySem.W.depthAll_map (x :: xs)) hu) fun i v h' tk bs hi rr hk => ?_
  have hi2 : its[i]? = some v := by simpa using hi
  obtain ⟨cs, r1, hlt, _, _⟩ := PySem.W.readsAll_at (vs := its) ra i v hi2
  have hl2 : i < (x :: xs).length := by simpa using hlt
  have e1 : ((x :: xs).map PySem.W.Datum.toD).getD i .none = PySem.W.Datum.toD ((x :: xs)[i]) := by
    rw [List.getD_eq_getElem?_getD, List.getElem?_map, List.getElem?_eq_getElem hl2]
    rfl
  rw [e1] at r1
  have e2 := (PyProof.Rows.reads_det (fun b o e _ => hk b o e) r1 rr).1
  rw [show (PySem.W.minD (PySem.W.Datum.toD x) (xs.map PySem.W.Datum.toD)) = PySem.W.Datum.toD (PySem.W.minOf x xs) from PySem.W.minD_map x xs] at e2
  have e3 : (x :: xs)[i] = PySem.W.minOf x xs := by
    have h1 := PySem.W.Datum.eqv ((x :: xs)[i]) (PySem.W.minOf x xs)
    rw [← e2, PySem.W.Datum.eqv] at h1
    simpa using h1
  have hlen := rv.length
  have hi3 : i < its.length := (List.getElem?_eq_some_iff.mp hi2).1
  have hy : ys[i]? = some (ys[i]'(by omega)) := List.getElem?_eq_getElem (by omega)
  obtain ⟨u, hu1, hu2⟩ := rv.get hy
  rw [hi2] at hu1
  cases hu1
  exact ⟨_, H, I.kept hk, hu2, q i _ hy (by rw [List.getElem?_eq_getElem hl2, e3])⟩
theorem minDQ {X : Cx} (K : PySem.W.Frag) (α : Type) [DecidableEq α] [PySem.W.DatumOrd α] (hc : X.calm = true) (hu : X.A.units + 65 < cLine) (hd : PySem.W.Datum.depth α ≤ 64 := by decide) (h : X.K = K := by rfl) : CallR X (.builtin "min") (rMinD K α) := by
  subst h
  exact cr_minD hc (by omega)
section
variable {α β : Type} [DecidableEq α] [PySem.W.DatumOrd α] [DecidableEq β] [PySem.W.DatumOrd β]
theorem ord_irr (a : α) : PySem.W.DatumOrd.lt a a = false := by
  rw [← PySem.W.DatumOrd.lt_eq]
  exact PySem.W.dataLt_self _
theorem ord_trans {a b c : α} (h1 : PySem.W.DatumOrd.lt a b = true) (h2 : PySem.W.DatumOrd.lt b c = true) : PySem.W.DatumOrd.lt a c = true := by
  rw [← PySem.W.DatumOrd.lt_eq] at *
  exact PyProof.Rows.lex_trans _ _ _ h1 h2
theorem min_fst : ∀ (xs : List (α × β)) (x : α × β), (PySem.W.minOf x xs).1 = PySem.W.minOf x.1 (xs.map (·.1))
  | [], x => rfl
  | y :: ys, x => by
    have h := min_fst ys
    unfold PySem.W.minOf at *
    rw [List.map_cons, List.foldl_cons, List.foldl_cons, h]
    congr 1
    show (if (if y.1 = x.1 then PySem.W.DatumOrd.lt y.2 x.2 else PySem.W.DatumOrd.lt y.1 x.1) = true then y else x).1 = _
    by_cases e : y.1 = x.1
    · rw [if_pos e, e, ite_self]
      split
      · exact e
      · rfl
    · rw [if_neg e]
      split <;> rfl
theorem min_spec : ∀ (xs : List α) (x : α), PySem.W.minOf x xs ∈ x :: xs ∧ ∀ y ∈ x :: xs, PySem.W.DatumOrd.lt y (PySem.W.minOf x xs) = false
  | [], x => ⟨List.mem_cons_self, fun y hy => by
      cases List.mem_singleton.mp hy
      exact ord_irr _⟩
  | z :: zs, x => by
    have e : PySem.W.minOf x (z :: zs) = PySem.W.minOf (if PySem.W.DatumOrd.lt z x = true then z else x) zs := rfl
    by_cases c : PySem.W.DatumOrd.lt z x = true
    · rw [if_pos c] at e
      obtain ⟨h1, h2⟩ := min_spec zs z
      rw [e]
      refine ⟨List.mem_cons_of_mem _ h1, fun y hy => ?_⟩
      rcases List.mem_cons.mp hy with rfl | hy
      · cases k : PySem.W.DatumOrd.lt y (PySem.W.minOf z zs)
        · rfl
        · have := h2 z List.mem_cons_self
          rw [ord_trans c k] at this
          exact this
      · exact h2 y hy
    · rw [if_neg c] at e
      obtain ⟨h1, h2⟩ := min_spec zs x
      rw [e]
      refine ⟨?_, fun y hy => ?_⟩
      · rcases List.mem_cons.mp h1 with h | h
        · rw [h]
          exact List.mem_cons_self
        · exact List.mem_cons_of_mem _ (List.mem_cons_of_mem _ h)
      · rcases List.mem_cons.mp hy with rfl | hy
        · exact h2 _ List.mem_cons_self
        · rcases List.mem_cons.mp hy with rfl | hy
          · cases k : PySem.W.DatumOrd.lt y (PySem.W.minOf x zs)
            · rfl
            · exfalso
              -- y < min, x not above it: min is x or one of zs
              have hx := h2 x List.mem_cons_self
              have c2 : PySem.W.DatumOrd.lt y x = false := by
                cases q : PySem.W.DatumOrd.lt y x
                · rfl
                · exact absurd q c
              rw [← PySem.W.DatumOrd.lt_eq] at k hx c2
              rcases (PyProof.Rows.lex_negTrans (O := PyProof.Rows.itemOrd) _ (PySem.W.keyToks (PySem.W.Datum.toD x)) _ k : _ ∨ _) with t | t
              · exact absurd (show PySem.W.dataLt _ _ = true from t) (by rw [c2]; decide)
              · exact absurd (show PySem.W.dataLt _ _ = true from t) (by rw [hx]; decide)
          · exact h2 y (List.mem_cons_of_mem _ hy)
end
theorem ints_total : ∀ a b : List Int, PySem.W.listLt a b = false → PySem.W.listLt b a = false → a = b
  | [], [], _, _ => rfl
  | [], _ :: _, h, _ => by exact absurd h (by unfold PySem.W.listLt; decide)
  | _ :: _, [], _, h => by exact absurd h (by unfold PySem.W.listLt; decide)
  | x :: xs, y :: ys, h1, h2 => by
    unfold PySem.W.listLt at h1 h2
    by_cases e : x = y
    · subst e
      rw [if_pos rfl] at h1 h2
      rw [ints_total xs ys h1 h2]
    · rw [if_neg e] at h1
      rw [if_neg (fun h => e h.symm)] at h2
      have k1 : ¬ x < y := of_decide_eq_false h1
      have k2 : ¬ y < x := of_decide_eq_false h2
      omega
/-- the least depends on what stands there alone -/
theorem min_alike {x y : PySem.W.Tup Int} {xs ys : List (PySem.W.Tup Int)} (h1 : ∀ z, z ∈ x :: xs → z ∈ y :: ys) (h2 : ∀ z, z ∈ y :: ys → z ∈ x :: xs) : PySem.W.minOf x xs = PySem.W.minOf y ys := by
  obtain ⟨a1, a2⟩ := min_spec xs x
  obtain ⟨b1, b2⟩ := min_spec ys y
  have k1 := a2 _ (h2 _ b1)
  have k2 := b2 _ (h1 _ a1)
  have e := ints_total _ _ k2 k1
  generalize PySem.W.minOf x xs = u at *
  generalize PySem.W.minOf y ys = v at *
  cases u
  cases v
  exact congrArg _ e

/-! ### lists of pairs of int tuples -/
def pD (p : List Int × List Int) : PyData := .tuple [tD p.1, tD p.2]
inductive Pps (K : PySem.W.Frag) (H : Hp) : List V → List (List Int × List Int) → Prop where
  | nil : Pps K H [] []
  | cons {a x y : Addr} {f m : List Int} {vs : List V} {ps : List (List Int × List Int)} : SqT K H a [.ref x, .ref y] → SqT K H x (f.map V.int) → SqT K H y (m.map V.int) → Pps K H vs ps → Pps K H (.ref a :: vs) ((f, m) :: ps)
theorem Pps.kt {K : PySem.W.Frag} {H H' : Hp} (s : KT K H H') : ∀ {vs : List V} {ts : List (List Int × List Int)}, Pps K H vs ts → Pps K H' vs ts
  | _, _, .nil => .nil
  | _, _, .cons h h1 h2 t => .cons (s _ _ h) (s _ _ h1) (s _ _ h2) (t.kt s)
theorem Pps.same {K : PySem.W.Frag} {H H' : Hp} {vs : List V} {ts : List (List Int × List Int)} (h : Pps K H vs ts) (s : Same H H') : Pps K H' vs ts := h.kt (same_kt s)
theorem Pps.len {K : PySem.W.Frag} {H : Hp} : ∀ {vs : List V} {ts : List (List Int × List Int)}, Pps K H vs ts → vs.length = ts.length
  | _, _, .nil => rfl
  | _, _, .cons _ _ _ t => by rw [List.length_cons, List.length_cons, t.len]
theorem Pps.app {K : PySem.W.Frag} {H : Hp} : ∀ {vs ws : List V} {ts us : List (List Int × List Int)}, Pps K H vs ts → Pps K H ws us → Pps K H (vs ++ ws) (ts ++ us)
  | _, _, _, _, .nil, h => h
  | _, _, _, _, .cons a b c t, h => .cons a b c (t.app h)
theorem Pps.snoc {K : PySem.W.Frag} {H : Hp} {vs : List V} {ts : List (List Int × List Int)} {a x y : Addr} {f m : List Int} (h : Pps K H vs ts) (s : SqT K H a [.ref x, .ref y]) (s1 : SqT K H x (f.map V.int)) (s2 : SqT K H y (m.map V.int)) : Pps K H (vs ++ [.ref a]) (ts ++ [(f, m)]) := h.app (.cons s s1 s2 .nil)
theorem Pps.at {K : PySem.W.Frag} {H : Hp} : ∀ {vs : List V} {ts : List (List Int × List Int)} {i : Nat} {x : V}, Pps K H vs ts → vs[i]? = some x → ∃ a u v f m, x = .ref a ∧ ts[i]? = some (f, m) ∧ SqT K H a [.ref u, .ref v] ∧ SqT K H u (f.map V.int) ∧ SqT K H v (m.map V.int)
  | _, _, _, _, .nil, h => by cases h
  | _, _, 0, _, .cons s s1 s2 t, h => by
    cases h
    exact ⟨_, _, _, _, _, rfl, rfl, s, s1, s2⟩
  | _, _, i + 1, _, .cons _ _ _ t, h => t.at (i := i) h
theorem Pps.dp {K : PySem.W.Frag} {H : Hp} : ∀ {vs : List V} {ts : List (List Int × List Int)}, Pps K H vs ts → DpAll K H vs (ts.map pD)
  | _, _, .nil => .nil
  | _, _, .cons h h1 h2 t => .cons (.tup h (.cons (.tup h1 (dp_ints _)) (.cons (.tup h2 (dp_ints _)) .nil))) t.dp
/-- the firsts of the pairs -/
theorem Pps.firsts {K : PySem.W.Frag} {H : Hp} : ∀ {vs : List V} {ts : List (List Int × List Int)}, Pps K H vs ts → ∃ zs : List V, Tps K H zs (ts.map (·.1)) ∧ ∀ (i : Nat) (v : V), vs[i]? = some v → ∃ a x y : Addr, v = V.ref a ∧ SqT K H a [.ref x, .ref y] ∧ zs[i]? = some (V.ref x)
  | _, _, .nil => ⟨[], .nil, fun i v h => by cases h⟩
  | _, _, .cons h h1 h2 t => by
    obtain ⟨zs, z1, z2⟩ := t.firsts
    refine ⟨_ :: zs, .cons h1 z1, fun i v hv => ?_⟩
    cases i with
    | zero =>
      cases hv
      exact ⟨_, _, _, rfl, h, rfl⟩
    | succ i => exact z2 i v hv
theorem lay_pps : ∀ ts : List (List Int × List Int), PyData.canLayAll0 (ts.map pD) = true
  | [] => rfl
  | t :: ts => by
    rw [List.map_cons, PyData.canLayAll0, lay_pps ts]
    unfold pD tD
    rw [PyData.canLay0, PyData.canLayAll0, PyData.canLayAll0, PyData.canLayAll0, PyData.canLay0, PyData.canLay0, lay_ints, lay_ints]
    rfl
theorem depth_pps : ∀ ts : List (List Int × List Int), PyData.depthAll (ts.map pD) ≤ 2
  | [] => by rw [List.map_nil, PyData.depthAll]; decide
  | t :: ts => by
    rw [List.map_cons, PyData.depthAll]
    unfold pD tD
    rw [PyData.depth, PyData.depthAll, PyData.depthAll, PyData.depthAll, PyData.depth, PyData.depth, depth_ints, depth_ints]
    exact Nat.max_le.mpr ⟨by decide, depth_pps ts⟩
theorem shaped_pps (ts : List (List Int × List Int)) : SeqAt.shaped (.list (ts.map pD)) = true := by
  show (PyData.canLay0 (.list (ts.map pD)) && decide (PyData.depth (.list (ts.map pD)) ≤ 64)) = true
  rw [Bool.and_eq_true]
  refine ⟨by rw [PyData.canLay0]; exact lay_pps ts, decide_eq_true ?_⟩
  rw [PyData.depth]
  have := depth_pps ts
  omega
theorem eqvAll_pps : ∀ ts us : List (List Int × List Int), PyData.eqvAll (ts.map pD) (us.map pD) = decide (ts = us)
  | [], [] => by simp [PyData.eqvAll]
  | [], _ :: _ => by simp [PyData.eqvAll]
  | _ :: _, [] => by simp [PyData.eqvAll]
  | t :: ts, u :: us => by
    rw [List.map_cons, List.map_cons, PyData.eqvAll, eqvAll_pps ts us]
    unfold pD tD
    rw [PyData.eqv, PyData.eqvAll, PyData.eqvAll, PyData.eqvAll, R.eqB, R.eqB]
    obtain ⟨t1, t2⟩ := t
    obtain ⟨u1, u2⟩ := u
    by_cases h : t1 = u1 <;> by_cases h2 : t2 = u2 <;> simp [h, h2]
namespace R
theorem eqPps {K : PySem.W.Frag} {H : Hp} {Q : VK} {p q : Addr} {vs ws : List V} {ts us : List (List Int × List Int)} (h1 : SqL K H p vs) (t1 : Pps K H vs ts) (h2 : SqL K H q ws) (t2 : Pps K H ws us) (h : Q (.bl (decide (ts = us))) H) : rEqD K (.ref p) (.ref q) H Q := by
  refine ⟨_, _, .lst h1 t1.dp, .lst h2 t2.dp, shaped_pps _, shaped_pps _, ?_⟩
  rw [PyData.eqv, eqvAll_pps]
  exact h
theorem nePps {K : PySem.W.Frag} {H : Hp} {Q : VK} {p q : Addr} {vs ws : List V} {ts us : List (List Int × List Int)} (h1 : SqL K H p vs) (t1 : Pps K H vs ts) (h2 : SqL K H q ws) (t2 : Pps K H ws us) (h : Q (.bl (!decide (ts = us))) H) : rNeD K (.ref p) (.ref q) H Q := by
  refine ⟨_, _, .lst h1 t1.dp, .lst h2 t2.dp, shaped_pps _, shaped_pps _, ?_⟩
  rw [PyData.eqv, eqvAll_pps]
  exact h
section
variable {K : PySem.W.Frag} {te : TE} {σ : L2.St} {H : Hp} {Q : VK}
/-- a comprehension over a list of any things whose results are known -/
theorem lcV {a : Addr} {ys zs : List V} {g : TG} {vs : List Nat} (hz : zs.length = ys.length) (hl : ys.length ≤ 100000) (hT : SqL K H a ys)
    (hs : ∀ (i : Nat) (y z : V) (H' : Hp) (Q' : VK), ys[i]? = some y → zs[i]? = some z → Same H H' → Q' z H' → g y (wipe σ vs) H' fun σ2 H2 => wipe σ2 vs = wipe σ vs ∧ te σ2 H2 Q')
    (hq : ∀ H' D, H' D = some (.lst zs) → Same H H' → H D = none → Q (.ref D) H') : LcJ (Itl K a) g tYes te vs σ H Q := by
  intro D nD
  refine lc_list (K := K) (a := a) (xs := ys) (fun i H' => H' D = some (.lst (zs.take i)) ∧ Same H H') ⟨upd_same, same_upd nD⟩ (fun i H' _ h => h.2.seq hT) (fun i x H5 hx ⟨h1, h5⟩ => ?_) (fun H5 ⟨h1, h5⟩ => ?_)
  · have hi : i < ys.length := (List.getElem?_eq_some_iff.mp hx).1
    have hzi : zs[i]? = some (zs[i]'(by omega)) := List.getElem?_eq_getElem (by omega)
    refine hs i x _ H5 _ hx hzi h5 ⟨_, h1, ?_, ?_, ?_⟩
    · rw [List.length_take]
      exact Nat.lt_of_le_of_lt (by omega : min i zs.length ≤ 100000) (by decide)
    · rw [upd_same, List.take_add_one, hzi]
      rfl
    · exact same_mut h5 nD
  · rw [← hz, List.take_length] at h1
    exact hq H5 D h1 h5 nD
theorem minTps {a : Addr} {vs : List V} {t : List Int} {ts : List (List Int)} (h1 : SqL K H a vs) (t1 : Tps K H vs (t :: ts)) (h : ∀ (i : Nat) (x : Addr) (u : List Int), (t :: ts)[i]? = some u → SqT K H x (u.map V.int) → PySem.W.Tup.mk u = PySem.W.minOf (PySem.W.Tup.mk t) (ts.map PySem.W.Tup.mk) → Q (.ref x) H) : rMinD K (PySem.W.Tup Int) [.ref a] H Q := by
  have e : ∀ l : List (List Int), l.map tD = (l.map PySem.W.Tup.mk).map PySem.W.Datum.toD := fun l => by
    rw [List.map_map]
    rfl
  have d := t1.dp
  rw [e] at d
  refine ⟨a, vs, PySem.W.Tup.mk t, ts.map PySem.W.Tup.mk, rfl, h1, d, fun i y hy hm => ?_⟩
  obtain ⟨x, u, rfl, hu, hs⟩ := t1.at hy
  refine h i x u hu hs ?_
  rw [show PySem.W.Tup.mk t :: ts.map PySem.W.Tup.mk = (t :: ts).map PySem.W.Tup.mk from rfl, List.getElem?_map, hu] at hm
  exact Option.some.inj hm
def pT (p : List Int × List Int) : PySem.W.Tup Int × PySem.W.Tup Int := (PySem.W.Tup.mk p.1, PySem.W.Tup.mk p.2)
theorem minPps {a : Addr} {vs : List V} {t : List Int × List Int} {ts : List (List Int × List Int)} (h1 : SqL K H a vs) (t1 : Pps K H vs (t :: ts)) (h : ∀ (i : Nat) (x u v : Addr) (f m : List Int), (t :: ts)[i]? = some (f, m) → SqT K H x [.ref u, .ref v] → SqT K H u (f.map V.int) → SqT K H v (m.map V.int) → PySem.W.Tup.mk f = PySem.W.minOf (PySem.W.Tup.mk t.1) ((ts.map (·.1)).map PySem.W.Tup.mk) → Q (.ref x) H) : rMinD K (PySem.W.Tup Int × PySem.W.Tup Int) [.ref a] H Q := by
  have e : ∀ l : List (List Int × List Int), l.map pD = (l.map pT).map PySem.W.Datum.toD := fun l => by
    rw [List.map_map]
    rfl
  have d := t1.dp
  rw [e] at d
  refine ⟨a, vs, pT t, ts.map pT, rfl, h1, d, fun i y hy hm => ?_⟩
  obtain ⟨x, u, v, f, m, rfl, hu, hs, hf, hm2⟩ := t1.at hy
  refine h i x u v f m hu hs hf hm2 ?_
  rw [show pT t :: ts.map pT = (t :: ts).map pT from rfl, List.getElem?_map, hu] at hm
  have e2 := congrArg Prod.fst (Option.some.inj hm)
  rw [min_fst, List.map_map] at e2
  rw [List.map_map]
  exact e2
end
end R

theorem kt_off {K : PySem.W.Frag} {H : Hp} {l : Addr} {xs ys : List V} (hl : H l = some (.lst xs)) : KT K H (upd H l (.lst ys)) := fun c zs h => by
  rcases h with (h | ⟨o, h⟩) | h
  · refine .inl (.inl ?_)
    rw [upd_ne (ne_of h hl (by intro z; cases z))]
    exact h
  · refine .inl (.inr ⟨o, ?_⟩)
    rw [upd_ne (ne_of h hl (by intro z; cases z))]
    exact h
  · exact .inr h
theorem red_bd {D a b c : Int} (F : IF D a b c) (h : RedI D a b) : Bd 60 a ∧ Bd 60 b ∧ Bd 60 c := by
  obtain ⟨s1, s2, s3⟩ := F.sizes h
  obtain ⟨r0, r1, _⟩ := F.root
  have b0 := h.1
  have b1 := h.2.1
  exact ⟨Bd.om (by omega), Bd.om (by omega), Bd.om (by omega)⟩
/-! ### cycles as lists -/
abbrev M4 := Int × Int × Int × Int
def fL (f : Fm) : List Int := [f.1, f.2.1, f.2.2]
def mL (m : M4) : List Int := [m.1, m.2.1, m.2.2.1, m.2.2.2]
theorem fL_inj {f g : Fm} (h : fL f = fL g) : f = g := by
  unfold fL at h
  injection h with h1 h
  injection h with h2 h
  injection h with h3 h
  exact fm_ext h1 h2 h3
def nK (D : Int) (f : Fm) : Int := nN D f.2.1 f.2.2
def mStep (m : M4) (n : Int) : M4 := (m.1 * 0 + m.2.1 * 1, m.1 * (-1) + m.2.1 * n, m.2.2.1 * 0 + m.2.2.2 * 1, m.2.2.1 * (-1) + m.2.2.2 * n)
def mN (D : Int) (f : Fm) : Nat → M4
  | 0 => (1, 0, 0, 1)
  | k + 1 => mStep (mN D f k) (nK D (rhoN D k f))
def actM (f : Fm) (m : M4) : Fm := actF f m.1 m.2.1 m.2.2.1 m.2.2.2
def detM (m : M4) : Int := m.1 * m.2.2.2 - m.2.1 * m.2.2.1
def BdM (n : Nat) (m : M4) : Prop := Bd n m.1 ∧ Bd n m.2.1 ∧ Bd n m.2.2.1 ∧ Bd n m.2.2.2
theorem rhoN_succ (D : Int) (k : Nat) (f : Fm) : rhoN D (k + 1) f = rho D (rhoN D k f) := rhoN_add D k 1 f
theorem nK_small {D : Int} {f : Fm} (F : IFf D f) (R : RDf D f) : (nK D f).natAbs ≤ 100 := by
  obtain ⟨a, b, c⟩ := f
  have F' : IF D a b c := F
  have R' : RedI D a b := R
  obtain ⟨v1, v2, v3⟩ := bN_spec (D := D) (b := b) F'.c0
  obtain ⟨s1, s2, s3⟩ := F'.sizes R'
  obtain ⟨r0, r1, _⟩ := F'.root
  have b0 := R'.1
  have b1 := R'.2.1
  have c0 := F'.c0
  show (nN D b c).natAbs ≤ 100
  generalize nN D b c = n at *
  have e : ((2 * c * n).natAbs : Int) = 2 * ((c.natAbs : Int) * (n.natAbs : Int)) := by
    rw [Int.mul_assoc, Int.natAbs_mul, Int.natAbs_mul]
    rfl
  have t := Int.mul_le_mul_of_nonneg_right (show 1 ≤ (c.natAbs : Int) by omega) (show 0 ≤ (n.natAbs : Int) by omega)
  have : ((2 * c * n).natAbs : Int) ≤ 200 := by omega
  omega
theorem mN_one (D : Int) (f : Fm) : mL (mN D f (0 + 1)) = [0, -1, 1, nK D f] := by
  show [1 * 0 + 0 * 1, 1 * (-1) + 0 * nK D f, 0 * 0 + 1 * 1, 0 * (-1) + 1 * nK D f] = _
  rw [Int.one_mul, Int.zero_mul, Int.one_mul]
  simp
theorem mN_ok {D : Int} {f : Fm} (F : IFf D f) (R : RDf D f) : ∀ k, detM (mN D f k) = 1 ∧ rhoN D k f = actM f (mN D f k) ∧ BdM (14 * k + 1) (mN D f k)
  | 0 => ⟨rfl, (actF_one f).symm, (by unfold Bd; decide : Bd 1 1), (by unfold Bd; decide : Bd 1 0), (by unfold Bd; decide : Bd 1 0), (by unfold Bd; decide : Bd 1 1)⟩
  | k + 1 => by
    obtain ⟨h1, h2, h3⟩ := mN_ok F R k
    obtain ⟨Fk, Rk⟩ := rhoN_ok k F R
    have hn : Bd 10 (nK D (rhoN D k f)) := Bd.of (nK_small Fk Rk) (by decide)
    have e : rhoN D (k + 1) f = actF (rhoN D k f) 0 (-1) 1 (nK D (rhoN D k f)) := rhoN_succ D k f
    rw [e]
    show detM (mStep _ _) = 1 ∧ _ = actM f (mStep _ _) ∧ BdM _ (mStep _ _)
    generalize nK D (rhoN D k f) = n at *
    generalize mN D f k = m at *
    obtain ⟨p, q, r, s⟩ := m
    have y0 : Bd 1 0 := by unfold Bd; decide
    have y1 : Bd 1 1 := by unfold Bd; decide
    have ym : Bd 1 (-1) := by unfold Bd; decide
    obtain ⟨e1, e2, e3, e4⟩ := h3
    dsimp only at e1 e2 e3 e4
    have h1' : p * s - q * r = 1 := h1
    refine ⟨?_, ?_, ((e1.mul y0).add (e2.mul y1)).mono (by omega), ((e1.mul ym).add (e2.mul hn)).mono (by omega), ((e3.mul y0).add (e4.mul y1)).mono (by omega), ((e3.mul ym).add (e4.mul hn)).mono (by omega)⟩
    · show (p * 0 + q * 1) * (r * (-1) + s * n) - (p * (-1) + q * n) * (r * 0 + s * 1) = 1
      rw [← h1']
      grind
    · rw [h2]
      exact actF_mul f p q r s 0 (-1) 1 n
def ringP (D : Int) (f : Fm) (k : Nat) : List (List Int × List Int) := (List.range k).map fun i => (fL (rhoN D i f), mL (mN D f i))
def ringF (D : Int) (f : Fm) (k : Nat) : List (List Int) := (List.range k).map fun i => fL (rhoN D i f)
theorem ringP_cons (D : Int) (f : Fm) (k : Nat) : ringP D f (k + 1) = (fL f, mL (1, 0, 0, 1)) :: (List.range k).map fun i => (fL (rhoN D (i + 1) f), mL (mN D f (i + 1))) := by
  unfold ringP
  rw [List.range_succ_eq_map, List.map_cons, List.map_map]
  rfl
theorem ringF_cons (D : Int) (f : Fm) (k : Nat) : ringF D f (k + 1) = fL f :: (List.range k).map fun i => fL (rhoN D (i + 1) f) := by
  unfold ringF
  rw [List.range_succ_eq_map, List.map_cons, List.map_map]
  rfl
theorem ringP_snoc (D : Int) (f : Fm) (k : Nat) : ringP D f (k + 1) = ringP D f k ++ [(fL (rhoN D k f), mL (mN D f k))] := by
  unfold ringP
  rw [List.range_succ, List.map_append]
  rfl
theorem ringF_snoc (D : Int) (f : Fm) (k : Nat) : ringF D f (k + 1) = ringF D f k ++ [fL (rhoN D k f)] := by
  unfold ringF
  rw [List.range_succ, List.map_append]
  rfl
theorem ringP_fst (D : Int) (f : Fm) (k : Nat) : (ringP D f k).map (·.1) = ringF D f k := by
  unfold ringP ringF
  rw [List.map_map]
  rfl
theorem ringP_len (D : Int) (f : Fm) (k : Nat) : (ringP D f k).length = k := by
  unfold ringP
  rw [List.length_map, List.length_range]
theorem ringF_len (D : Int) (f : Fm) (k : Nat) : (ringF D f k).length = k := by
  unfold ringF
  rw [List.length_map, List.length_range]
theorem ringP_at {D : Int} {f : Fm} {k i : Nat} {p : List Int × List Int} (h : (ringP D f k)[i]? = some p) : i < k ∧ p = (fL (rhoN D i f), mL (mN D f i)) := by
  unfold ringP at h
  rw [List.getElem?_map] at h
  by_cases z : i < k
  · rw [List.getElem?_range z] at h
    exact ⟨z, (Option.some.inj h).symm⟩
  · rw [List.getElem?_eq_none (by rw [List.length_range]; omega)] at h
    cases h
theorem ringF_at {D : Int} {f : Fm} {k i : Nat} {p : List Int} (h : (ringF D f k)[i]? = some p) : p = fL (rhoN D i f) := by
  unfold ringF at h
  rw [List.getElem?_map] at h
  by_cases z : i < k
  · rw [List.getElem?_range z] at h
    exact (Option.some.inj h).symm
  · rw [List.getElem?_eq_none (by rw [List.length_range]; omega)] at h
    cases h
/-! a box for the cycles of discriminants up to 3,200 -/
def boxD (D : Int) : List Fm := (List.range 28).flatMap fun (k : Nat) => (List.range (2 * k + 2)).flatMap fun (j : Nat) =>
  [((rootI D - (2 * (k : Int) + 2 - D % 2)) / 2 + 1 + (j : Int), 2 * (k : Int) + 2 - D % 2, ((2 * (k : Int) + 2 - D % 2) * (2 * (k : Int) + 2 - D % 2) - D) / (4 * ((rootI D - (2 * (k : Int) + 2 - D % 2)) / 2 + 1 + (j : Int)))),
   (-((rootI D - (2 * (k : Int) + 2 - D % 2)) / 2 + 1 + (j : Int)), 2 * (k : Int) + 2 - D % 2, ((2 * (k : Int) + 2 - D % 2) * (2 * (k : Int) + 2 - D % 2) - D) / (4 * -((rootI D - (2 * (k : Int) + 2 - D % 2)) / 2 + 1 + (j : Int))))]
theorem boxD_len (D : Int) : (boxD D).length = 1624 := by
  unfold boxD
  simp only [List.length_flatMap, List.length_cons, List.length_nil]
  decide +kernel
theorem boxD_mem {D : Int} {f : Fm} (F : IFf D f) (R : RDf D f) (hD : D ≤ 3200) : f ∈ boxD D := by
  obtain ⟨a, b, c⟩ := f
  have F' : IF D a b c := F
  obtain ⟨q1, q2, q3, q4⟩ := (show RedI D a b from R)
  obtain ⟨r0, _, r2, r3⟩ := F'.root
  have e := F'.cc
  have a0 := F'.a0
  have r56 : rootI D ≤ 56 := by
    by_cases z : rootI D ≤ 56
    · exact z
    · have := Int.mul_le_mul (show 57 ≤ rootI D by omega) (show 57 ≤ rootI D by omega) (by omega) (by omega)
      omega
  have par : D % 2 = b % 2 := by
    have e2 : b * b = (b / 2) * (b / 2) * 4 + 4 * (b / 2) * (b % 2) + (b % 2) * (b % 2) := by
      have h := Int.mul_ediv_add_emod b 2
      generalize b / 2 = x at *
      generalize b % 2 = y at *
      rw [← h]
      grind
    have h2 : (b % 2) * (b % 2) = b % 2 := by
      rcases Int.emod_two_eq b with h | h <;> rw [h] <;> rfl
    rw [h2, Int.mul_assoc 4] at e2
    generalize (b / 2) * (b / 2) = x at *
    generalize (b / 2) * (b % 2) = y at *
    generalize a * c = w at *
    omega
  have hb : 2 * ((((b + D % 2 - 2) / 2).toNat : Nat) : Int) + 2 - D % 2 = b := by omega
  have hc : ∀ a' : Int, a' = a → (b * b - D) / (4 * a') = c := by
    rintro a' rfl
    rw [← e, ← Int.mul_assoc]
    exact Int.mul_ediv_cancel_left _ (by omega)
  refine List.mem_flatMap.mpr ⟨((b + D % 2 - 2) / 2).toNat, List.mem_range.mpr (by omega), List.mem_flatMap.mpr ⟨((a.natAbs : Int) - (rootI D - b) / 2 - 1).toNat, List.mem_range.mpr (by omega), ?_⟩⟩
  rw [hb]
  have ha : (rootI D - b) / 2 + 1 + ((((a.natAbs : Int) - (rootI D - b) / 2 - 1).toNat : Nat) : Int) = (a.natAbs : Int) := by omega
  rw [ha]
  rcases Int.lt_or_le 0 a with z | z
  · rw [show (a.natAbs : Int) = a by omega, hc a rfl]
    exact List.mem_cons_self
  · rw [show -(a.natAbs : Int) = a by omega, hc a rfl]
    exact List.mem_cons_of_mem _ List.mem_cons_self
theorem ring_ok {D : Int} {f : Fm} (F : IFf D f) (R : RDf D f) (hD : D ≤ 3200) : ∃ k, Cyc D f (k + 1) ∧ k + 1 ≤ 1624 := by
  obtain ⟨n, hn, hl⟩ := cyc_of F R (box := boxD D) fun i => boxD_mem (rhoN_ok i F R).1 (rhoN_ok i F R).2 hD
  rw [boxD_len] at hl
  obtain ⟨k, rfl⟩ : ∃ k, n = k + 1 := ⟨n - 1, by have := hn.n0; omega⟩
  exact ⟨k, hn, hl⟩
theorem Cyc.mod {D : Int} {f : Fm} {n : Nat} (h : Cyc D f n) (i : Nat) : rhoN D (i % n) f = rhoN D i f := by
  conv => rhs; rw [← Nat.div_add_mod i n, rhoN_add, rhoN_mul h.back]
theorem ringF_mem {D : Int} {f : Fm} {n : Nat} (h : Cyc D f n) {z : List Int} : z ∈ ringF D f n ↔ ∃ i, z = fL (rhoN D i f) := by
  unfold ringF
  rw [List.mem_map]
  constructor
  · rintro ⟨i, _, rfl⟩
    exact ⟨i, rfl⟩
  · rintro ⟨i, rfl⟩
    exact ⟨i % n, List.mem_range.mpr (Nat.mod_lt _ h.n0), by rw [h.mod]⟩
/-- the least form of a cycle -/
def leastT (D : Int) (f : Fm) (k : Nat) : PySem.W.Tup Int := PySem.W.minOf (PySem.W.Tup.mk (fL f)) (((List.range k).map fun i => fL (rhoN D (i + 1) f)).map PySem.W.Tup.mk)
theorem least_cycle {D : Int} {f g : Fm} {k l m : Nat} (hf : Cyc D f (k + 1)) (hg : Cyc D g (l + 1)) (e : rhoN D m f = g) : leastT D f k = leastT D g l := by
  have hm : ∀ (f : Fm) (k : Nat), Cyc D f (k + 1) → ∀ z, z ∈ (PySem.W.Tup.mk (fL f) :: ((List.range k).map fun i => fL (rhoN D (i + 1) f)).map PySem.W.Tup.mk) ↔ ∃ i, z = PySem.W.Tup.mk (fL (rhoN D i f)) := by
    intro f k h z
    rw [← List.map_cons, ← ringF_cons, List.mem_map]
    constructor
    · rintro ⟨x, hx, rfl⟩
      obtain ⟨i, rfl⟩ := (ringF_mem h).mp hx
      exact ⟨i, rfl⟩
    · rintro ⟨i, rfl⟩
      exact ⟨_, (ringF_mem h).mpr ⟨i, rfl⟩, rfl⟩
  obtain ⟨m2, e2⟩ := rhoN_back hf.n0 hf.back e
  refine min_alike (fun z hz => ?_) (fun z hz => ?_)
  · obtain ⟨i, rfl⟩ := (hm f k hf z).mp hz
    exact (hm g l hg _).mpr ⟨m2 + i, by rw [rhoN_add, e2]⟩
  · obtain ⟨i, rfl⟩ := (hm g l hg z).mp hz
    exact (hm f k hf _).mpr ⟨m + i, by rw [rhoN_add, e]⟩
/-- forms of one class have one least form -/
theorem least_class {D : Int} {f g : Fm} {k l : Nat} {p q r s : Int} (hD : D ≤ 3200) (F : IFf D f) (G : IFf D g) (Rf : RDf D f) (Rg : RDf D g) (hf : Cyc D f (k + 1)) (hg : Cyc D g (l + 1)) (hd : p * s - q * r = 1) (e : g = actF f p q r s) : leastT D f k = leastT D g l := by
  obtain ⟨m, hm⟩ := class_cycle (fun x hx rx => by
    obtain ⟨k, h, _⟩ := ring_ok hx rx hD
    exact ⟨k + 1, h.n0, h.back⟩) F G Rf Rg hd e
  exact least_cycle hf hg hm

/-- the least form of the cycle that f leads to -/
abbrev CanF (D : Int) (f h : Fm) : Prop := ∃ (g : Fm) (k : Nat) (w : M4), IFf D g ∧ RDf D g ∧ detM w = 1 ∧ g = actM f w ∧ Cyc D g (k + 1) ∧ PySem.W.Tup.mk (fL h) = leastT D g k
/-- what canonical gives -/
structure CanI (D : Int) (f h : Fm) (m : M4) : Prop where
  det : detM m = 1
  act : h = actM f m
  bd : BdM 36901 m
  from_ : CanF D f h
theorem canF_uniq {D : Int} {f f' h h' : Fm} {n : M4} (hD : D ≤ 3200) (C : CanF D f h) (C' : CanF D f' h') (hn : detM n = 1) (e : f' = actM f n) : h' = h := by
  obtain ⟨g, k, w, G, Rg, dw, eg, cy, hl⟩ := C
  obtain ⟨g', k', w', G', Rg', dw', eg', cy', hl'⟩ := C'
  obtain ⟨w1, w2, w3, w4⟩ := w
  obtain ⟨n1, n2, n3, n4⟩ := n
  obtain ⟨v1, v2, v3, v4⟩ := w'
  have dw : w1 * w4 - w2 * w3 = 1 := dw
  have hn : n1 * n4 - n2 * n3 = 1 := hn
  have dw' : v1 * v4 - v2 * v3 = 1 := dw'
  have eg : g = actF f w1 w2 w3 w4 := eg
  have e : f' = actF f n1 n2 n3 n4 := e
  have eg' : g' = actF f' v1 v2 v3 v4 := eg'
  have ef : f = actF g w4 (-w2) (-w3) w1 := by rw [eg, actF_inv f dw]
  rw [e, ef, actF_mul, actF_mul] at eg'
  have e5 := least_class hD G G' Rg Rg' cy cy' (by
    have e6 : ∀ x1 x2 x3 x4 y1 y2 y3 y4 : Int, (x1 * y1 + x2 * y3) * (x3 * y2 + x4 * y4) - (x1 * y2 + x2 * y4) * (x3 * y1 + x4 * y3) = (x1 * x4 - x2 * x3) * (y1 * y4 - y2 * y3) := by
      intros
      grind
    rw [e6, e6, hn, dw']
    have : w4 * w1 - -w2 * -w3 = 1 := by rw [← dw]; grind
    rw [this]
    rfl) eg'
  rw [← hl, ← hl'] at e5
  injection e5 with e5
  exact (fL_inj e5).symm

/-! ### products of prime parts -/
def pwL (p k : Nat) : List Int := (List.range (k + 1)).map fun j => ((p ^ j : Nat) : Int)
def prdS (f : List Int) (pk : Nat × Nat) : List Int := f.flatMap fun g => (pwL pk.1 pk.2).map fun q => g * q
def prdL (l : List (Nat × Nat)) : List Int := l.foldl prdS [1]
theorem prdL_snoc (l : List (Nat × Nat)) (x : Nat × Nat) : prdL (l ++ [x]) = prdS (prdL l) x := by
  unfold prdL
  rw [List.foldl_append]
  rfl
theorem pwL_len (p k : Nat) : (pwL p k).length = k + 1 := by
  unfold pwL
  rw [List.length_map, List.length_range]
theorem pwL_succ (p k : Nat) : pwL p (k + 1) = pwL p k ++ [((p ^ (k + 1) : Nat) : Int)] := by
  unfold pwL
  rw [List.range_succ, List.map_append]
  rfl
theorem prdS_len (f : List Int) (pk : Nat × Nat) : (prdS f pk).length = f.length * (pk.2 + 1) := by
  unfold prdS
  rw [List.length_flatMap]
  induction f with
  | nil => simp
  | cons a f ih =>
    rw [List.map_cons, List.sum_cons, ih, List.length_map, pwL_len, List.length_cons, Nat.succ_mul]
    omega
theorem rgI_pw (p k : Nat) : ((rgI 0 ((k : Int) + 1).toNat).filter fun _ => true).map (fun x : Int => ((p ^ x.toNat : Nat) : Int)) = pwL p k := by
  rw [List.filter_eq_self.mpr (fun _ _ => rfl)]
  unfold rgI pwL
  rw [List.map_map, show ((k : Int) + 1).toNat = k + 1 by omega]
  refine List.map_congr_left fun t _ => ?_
  show ((p ^ (0 + (t : Int)).toNat : Nat) : Int) = ((p ^ t : Nat) : Int)
  rw [show (0 + (t : Int)).toNat = t by omega]
/-- small enough to be made -/
structure PrdOk (l : List (Nat × Nat)) : Prop where
  p : ∀ x ∈ l, x.1 < 2 ^ 60 ∧ x.2 < 900
  len : ∀ i, (prdL (l.take i)).length ≤ 100000
  bd : ∀ i, ∀ g ∈ prdL (l.take i), Bd 60 g

/-! ### where a split form has a value -/
/-- the measures of n, those below 0 behind the others -/
def msL (l : List (Nat × Nat)) : List Int := prdL l ++ (prdL l).map fun g => -g
structure MsOk (N : Nat) (l : List (Nat × Nat)) : Prop where
  pp : ppM N = some l
  ok : PrdOk l
  nd : (prdL l).Nodup
  mem : ∀ g, g ∈ prdL l ↔ 0 < g ∧ g ∣ (N : Int)
  len : (prdL l).length ≤ 40000
theorem MsOk.ms {n : Int} {l : List (Nat × Nat)} (h : MsOk n.natAbs l) (n0 : n ≠ 0) : (msL l).Nodup ∧ ∀ g, g ∈ msL l ↔ g ∣ n := by
  have hm : ∀ g, g ∈ prdL l ↔ 0 < g ∧ g ∣ n := fun g => (h.mem g).trans (and_congr_right fun _ => Int.dvd_natAbs)
  constructor
  · unfold msL
    refine List.nodup_append.mpr ⟨h.nd, ?_, ?_⟩
    · exact List.pairwise_map.mpr (h.nd.imp fun e k => e (by omega))
    · intro a ha b hb e
      obtain ⟨c, hc, rfl⟩ := List.mem_map.mp hb
      have h1 := (hm a).mp ha
      have h2 := (hm c).mp hc
      omega
  · intro g
    unfold msL
    rw [List.mem_append, List.mem_map]
    constructor
    · rintro (h1 | ⟨c, hc, rfl⟩)
      · exact ((hm g).mp h1).2
      · exact Int.neg_dvd.mpr ((hm c).mp hc).2
    · intro hd
      have g0 : g ≠ 0 := by
        rintro rfl
        exact n0 (Int.zero_dvd.mp hd)
      rcases Int.lt_or_gt_of_ne g0 with k | k
      · exact .inr ⟨-g, (hm _).mpr ⟨by omega, Int.neg_dvd.mpr hd⟩, by omega⟩
      · exact .inl ((hm g).mpr ⟨k, hd⟩)
def spT (n k c : Int) (y : Int) : Bool := decide ((n.fdiv y - c * y) % k = 0)
def spP (n k c p q r s : Int) (y : Int) : Int × Int := (p * (n.fdiv y - c * y).fdiv k + q * y, r * (n.fdiv y - c * y).fdiv k + s * y)
def spL (n k c p q r s : Int) (ms : List Int) : List (Int × Int) := (ms.filter (spT n k c)).map (spP n k c p q r s)
theorem cs_val {k a b c c' p q r s X Y : Int} (C : CS k a b c c' p q r s) : fA a b c (p * X + q * Y) (r * X + s * Y) = Y * (k * X + c' * Y) := by
  have e : fA a b c (p * X + q * Y) (r * X + s * Y) = X * X * fA a b c p r + X * Y * fB a b c p q r s + Y * Y * fA a b c q s := by
    unfold fA fB
    grind
  rw [e, ← C.ea, ← C.eb, ← C.ec]
  grind
theorem sp_mem {n k a b c c' p q r s : Int} {ms : List Int} (k0 : 0 < k) (n0 : n ≠ 0) (C : CS k a b c c' p q r s) (hm : ∀ g, g ∈ ms ↔ g ∣ n) (v : Int × Int) : v ∈ spL n k c' p q r s ms ↔ fA a b c v.1 v.2 = n := by
  unfold spL
  rw [List.mem_map]
  constructor
  · rintro ⟨y, hy, rfl⟩
    obtain ⟨h1, h2⟩ := List.mem_filter.mp hy
    have hd := (hm y).mp h1
    have h3 := of_decide_eq_true h2
    unfold spP
    rw [cs_val C]
    obtain ⟨m, hmn⟩ := hd
    have y0 : y ≠ 0 := by
      rintro rfl
      omega
    have e1 : n.fdiv y = m := by rw [hmn, Int.mul_fdiv_cancel_left _ y0]
    rw [e1] at h3 ⊢
    have e2 : k * (m - c' * y).fdiv k = m - c' * y := by
      have := Int.mul_ediv_add_emod (m - c' * y) k
      rw [Int.fdiv_eq_ediv_of_nonneg _ (by omega)]
      omega
    rw [e2, hmn]
    congr 1
    omega
  · intro h
    have hd := C.det
    generalize hX : s * v.1 - q * v.2 = X
    generalize hY : -r * v.1 + p * v.2 = Y
    have v1 : v.1 = p * X + q * Y := by
      rw [← hX, ← hY]
      have : p * (s * v.1 - q * v.2) + q * (-r * v.1 + p * v.2) = (p * s - q * r) * v.1 := by grind
      rw [this, hd]
      omega
    have v2 : v.2 = r * X + s * Y := by
      rw [← hX, ← hY]
      have : r * (s * v.1 - q * v.2) + s * (-r * v.1 + p * v.2) = (p * s - q * r) * v.2 := by grind
      rw [this, hd]
      omega
    rw [v1, v2, cs_val C] at h
    have y0 : Y ≠ 0 := by
      rintro rfl
      omega
    have e1 : n.fdiv Y = k * X + c' * Y := by rw [← h, Int.mul_fdiv_cancel_left _ y0]
    have e2 : n.fdiv Y - c' * Y = k * X := by omega
    refine ⟨Y, List.mem_filter.mpr ⟨(hm Y).mpr ⟨_, h.symm⟩, decide_eq_true ?_⟩, ?_⟩
    · rw [e2]
      exact Int.mul_emod_right k X
    · unfold spP
      rw [e2, Int.mul_fdiv_cancel_left _ (by omega)]
      exact Prod.ext v1.symm v2.symm
theorem sp_nodup {n k a b c c' p q r s : Int} {ms : List Int} (C : CS k a b c c' p q r s) (nd : ms.Nodup) : (spL n k c' p q r s ms).Nodup := by
  unfold spL
  refine List.pairwise_map.mpr (List.Pairwise.imp ?_ (nd.filter _))
  intro y z hne e
  refine hne ?_
  have h1 := congrArg Prod.fst e
  have h2 := congrArg Prod.snd e
  unfold spP at h1 h2
  dsimp only at h1 h2
  generalize (n.fdiv y - c' * y).fdiv k = A at *
  generalize (n.fdiv z - c' * z).fdiv k = B at *
  have hd := C.det
  have i1 : -r * (p * A + q * y) + p * (r * A + s * y) = (p * s - q * r) * y := by grind
  have i2 : -r * (p * B + q * z) + p * (r * B + s * z) = (p * s - q * r) * z := by grind
  rw [h1, h2, i2, hd] at i1
  omega

theorem lin_0 (b c x y : Int) : 1 * (0 * x * x + b * x * y + c * y * y) = (0 * x + 1 * y) * (b * x + c * y) := by grind
theorem lin_w {a b k : Int} : 2 * a * (b - k) - (b + k) * (2 * a) = a * (-4 * k) := by grind
theorem lin_v {a b c k x y : Int} (h : b * b - 4 * a * c = k * k) : 4 * a * fA a b c x y = (2 * a * x + (b + k) * y) * (2 * a * x + (b - k) * y) := by
  unfold fA
  have : (2 * a * x + (b + k) * y) * (2 * a * x + (b - k) * y) = 4 * a * a * x * x + 4 * a * b * x * y + (b * b - k * k) * y * y := by grind
  rw [this, ← h]
  grind
theorem act_mul (a b c p q r s p2 q2 r2 s2 : Int) : fA (fA a b c p r) (fB a b c p q r s) (fA a b c q s) p2 r2 = fA a b c (p * p2 + q * r2) (r * p2 + s * r2) ∧
    fB (fA a b c p r) (fB a b c p q r s) (fA a b c q s) p2 q2 r2 s2 = fB a b c (p * p2 + q * r2) (p * q2 + q * s2) (r * p2 + s * r2) (r * q2 + s * s2) ∧
    fA (fA a b c p r) (fB a b c p q r s) (fA a b c q s) q2 s2 = fA a b c (p * q2 + q * s2) (r * q2 + s * s2) := by
  unfold fA fB
  refine ⟨by grind, by grind, by grind⟩
theorem cs_uniq {k a b c n1 n2 n3 n4 c1 c2 p q r s p2 q2 r2 s2 : Int} (k0 : 0 < k) (C1 : CS k a b c c1 p q r s) (hn : n1 * n4 - n2 * n3 = 1) (C2 : CS k (fA a b c n1 n3) (fB a b c n1 n2 n3 n4) (fA a b c n2 n4) c2 p2 q2 r2 s2) : c1 = c2 := by
  obtain ⟨i1, i2, d1, e1, e2, e3⟩ := C1
  obtain ⟨j1, j2, d2, g1, g2, g3⟩ := C2
  -- back to (a, b, c)
  obtain ⟨v1, v2, v3⟩ := act_mul a b c p q r s s (-q) (-r) p
  rw [← e1, ← e2, ← e3] at v1 v2 v3
  have w1 : p * s + q * -r = 1 := by rw [← d1]; grind
  have w2 : r * s + s * -r = 0 := by grind
  have w3 : p * -q + q * p = 0 := by grind
  have w4 : r * -q + s * p = 1 := by rw [← d1]; grind
  rw [w1, w2] at v1
  rw [w1, w2, w3, w4] at v2
  rw [w3, w4] at v3
  have u1 : fA a b c 1 0 = a := by unfold fA; grind
  have u2 : fB a b c 1 0 0 1 = b := by unfold fB; grind
  have u3 : fA a b c 0 1 = c := by unfold fA; grind
  rw [u1] at v1
  rw [u2] at v2
  rw [u3] at v3
  obtain ⟨m1, m2, m3⟩ := act_mul a b c n1 n2 n3 n4 p2 q2 r2 s2
  rw [← g1] at m1
  rw [← g2] at m2
  rw [← g3] at m3
  obtain ⟨o1, o2, o3⟩ := act_mul 0 k c1 s (-q) (-r) p (n1 * p2 + n2 * r2) (n1 * q2 + n2 * s2) (n3 * p2 + n4 * r2) (n3 * q2 + n4 * s2)
  rw [v1, v2, v3] at o1 o2 o3
  rw [← m1] at o1
  rw [← m2] at o2
  rw [← m3] at o3
  refine split_one k0 ?_ i1 i2 j1 j2 o1 o2 o3
  have e : (s * (n1 * p2 + n2 * r2) + -q * (n3 * p2 + n4 * r2)) * (-r * (n1 * q2 + n2 * s2) + p * (n3 * q2 + n4 * s2)) - (s * (n1 * q2 + n2 * s2) + -q * (n3 * q2 + n4 * s2)) * (-r * (n1 * p2 + n2 * r2) + p * (n3 * p2 + n4 * r2)) = (p * s - q * r) * ((n1 * n4 - n2 * n3) * (p2 * s2 - q2 * r2)) := by grind
  rw [e, d1, hn, d2]
  rfl
theorem FL.bd {a b c g p q : Int} (h : FL a b c g p q) : g.natAbs ≤ a.natAbs + c.natAbs ∧ p.natAbs ≤ a.natAbs + 1 ∧ q.natAbs ≤ c.natAbs + 1 := by
  obtain ⟨ea, eb, ec, co, sg, g0⟩ := h
  have na : a.natAbs = g.natAbs * (p.natAbs * p.natAbs) := by rw [ea, Int.natAbs_mul, Int.natAbs_mul]
  have nc : c.natAbs = g.natAbs * (q.natAbs * q.natAbs) := by rw [ec, Int.natAbs_mul, Int.natAbs_mul]
  have g1 : 1 ≤ g.natAbs := by omega
  have key : ∀ x : Nat, x ≤ g.natAbs * (x * x) := by
    intro x
    have h1 : x ≤ x * x := by
      cases x with
      | zero => exact Nat.le_refl _
      | succ n => exact Nat.le_mul_of_pos_left _ (Nat.succ_pos n)
    exact Nat.le_trans h1 (Nat.le_mul_of_pos_left _ g1)
  have k1 := key p.natAbs
  have k2 := key q.natAbs
  refine ⟨?_, by omega, by omega⟩
  rcases sg with s | ⟨_, s⟩
  · have : g.natAbs * 1 ≤ g.natAbs * (p.natAbs * p.natAbs) := Nat.mul_le_mul_left _ (Nat.mul_pos (by omega) (by omega))
    omega
  · rw [s] at nc
    have : g.natAbs * (Int.natAbs 1 * Int.natAbs 1) = g.natAbs := by simp
    omega
theorem fl_act {g P Q a b c w1 w2 w3 w4 : Int} (g0 : g ≠ 0) (h : P ≠ 0 ∨ Q ≠ 0) (ea : a = g * (P * P)) (eb : b = 2 * (g * (P * Q))) (ec : c = g * (Q * Q)) (hd : w1 * w4 - w2 * w3 = 1) : ∃ g' p q, FL (fA a b c w1 w3) (fB a b c w1 w2 w3 w4) (fA a b c w2 w4) g' p q := by
  have hne : P * w1 + Q * w3 ≠ 0 ∨ P * w2 + Q * w4 ≠ 0 := by
    by_cases u1 : P * w1 + Q * w3 = 0
    · right
      intro u2
      have e1 : P = 0 := by
        have : P * (w1 * w4 - w2 * w3) = w4 * (P * w1 + Q * w3) - w3 * (P * w2 + Q * w4) := by grind
        rw [hd, u1, u2] at this
        omega
      have e2 : Q = 0 := by
        have : Q * (w1 * w4 - w2 * w3) = w1 * (P * w2 + Q * w4) - w2 * (P * w1 + Q * w3) := by grind
        rw [hd, u1, u2] at this
        omega
      rcases h with h | h
      · exact h e1
      · exact h e2
    · exact .inl u1
  refine FL.of g0 hne ?_ ?_ ?_
  · rw [ea, eb, ec]
    unfold fA
    grind
  · rw [ea, eb, ec]
    unfold fB
    grind
  · rw [ea, eb, ec]
    unfold fA
    grind
theorem flat_leads {a b c g p q u v : Int} (h : FL a b c g p q) (e : u * p + v * q = 1) : u * p - -q * v = 1 ∧ g = fA a b c u v ∧ 0 = fB a b c u (-q) v p ∧ 0 = fA a b c (-q) p := by
  obtain ⟨ea, eb, ec, co, sg, g0⟩ := h
  have h1 : u * p - -q * v = 1 := by rw [← e]; grind
  have h2 : fA a b c u v = g * ((u * p + v * q) * (u * p + v * q)) := by
    rw [ea, eb, ec]
    unfold fA
    grind
  refine ⟨h1, by rw [h2, e]; omega, ?_, ?_⟩
  · rw [ea, eb, ec]
    unfold fB
    grind
  · rw [ea, eb, ec]
    unfold fA
    grind

/-! ### the four sorts of forms -/
inductive Srt where
  | d (E g : Int)
  | i (D : Int)
  | s (k : Int)
  | f (g p q : Int)
def InS : Srt → Fm → Prop
  | .d E g, f => ((g = 1 ∧ 0 < f.1) ∨ (g = -1 ∧ f.1 < 0)) ∧ PF E (g * f.1) (g * f.2.1) (g * f.2.2)
  | .i D, f => IF D f.1 f.2.1 f.2.2 ∧ D ≤ 3200
  | .s k, f => SF k f.1 f.2.1 f.2.2 ∧ k ≤ 1000
  | .f g p q, f => FlatR f.1 f.2.1 f.2.2 g p q
/-- h is the canonical form of f -/
def CnS : Srt → Fm → Fm → Prop
  | .d _ g, f, h => ∃ m : M4, detM m = 1 ∧ h = actM f m ∧ RedD (g * h.1) (g * h.2.1) (g * h.2.2)
  | .i D, f, h => CanF D f h
  | .s k, f, h => ∃ c' p q r s, h = (0, k, c') ∧ CS k f.1 f.2.1 f.2.2 c' p q r s
  | .f g _ _, _, h => h = (g, 0, 0)
def kdS : Srt → Str
  | .d _ _ => "definite"
  | .i _ => "indefinite"
  | .s _ => "split"
  | .f _ _ _ => "flat"
theorem sg_cancel {g x y : Int} (h : g = 1 ∨ g = -1) (e : g * x = g * y) : x = y := by
  rcases h with rfl | rfl <;> omega
theorem fA_sg (g a b c p r : Int) : fA (g * a) (g * b) (g * c) p r = g * fA a b c p r := by
  unfold fA
  grind
theorem fB_sg (g a b c p q r s : Int) : fB (g * a) (g * b) (g * c) p q r s = g * fB a b c p q r s := by
  unfold fB
  grind
theorem redD_pos {a b c : Int} (h : RedD a b c) : 0 < a := by
  obtain ⟨h1, h2, _⟩ := h
  omega
theorem pf_dsc {E g a b c : Int} (h : g = 1 ∨ g = -1) (F : PF E (g * a) (g * b) (g * c)) : dsc a b c = -E := by
  have d := F.d
  unfold dsc
  rcases h with rfl | rfl
  · grind
  · grind
theorem pf_of {E g a b c : Int} (h : g = 1 ∨ g = -1) (d : dsc a b c = -E) (e0 : 0 < E) (e1 : E ≤ 10000) (a0 : 0 < g * a) : PF E (g * a) (g * b) (g * c) := by
  refine ⟨?_, e0, e1, a0⟩
  unfold dsc at d
  rcases h with rfl | rfl
  · grind
  · grind
theorem sg_or {g a : Int} (h : (g = 1 ∧ 0 < a) ∨ (g = -1 ∧ a < 0)) : g = 1 ∨ g = -1 := by omega
theorem det_mul {x1 x2 x3 x4 y1 y2 y3 y4 : Int} (h1 : x1 * x4 - x2 * x3 = 1) (h2 : y1 * y4 - y2 * y3 = 1) : (x1 * y1 + x2 * y3) * (x3 * y2 + x4 * y4) - (x1 * y2 + x2 * y4) * (x3 * y1 + x4 * y3) = 1 := by
  have e : (x1 * y1 + x2 * y3) * (x3 * y2 + x4 * y4) - (x1 * y2 + x2 * y4) * (x3 * y1 + x4 * y3) = (x1 * x4 - x2 * x3) * (y1 * y4 - y2 * y3) := by grind
  rw [e, h1, h2]
  rfl
theorem det_inv {p q r s : Int} (h : p * s - q * r = 1) : s * p - -q * -r = 1 := by
  rw [← h]
  grind
/-- one class has one canonical form -/
theorem cn_uniq {S : Srt} {f h h' : Fm} (I : InS S f) (C : CnS S f h) (C' : CnS S f h') : h = h' := by
  obtain ⟨a, b, c⟩ := f
  cases S with
  | d E g =>
    obtain ⟨hg, F⟩ := I
    have hg1 := sg_or hg
    obtain ⟨⟨p, q, r, s⟩, dm, e, R⟩ := C
    obtain ⟨⟨p', q', r', s'⟩, dm', e', R'⟩ := C'
    obtain ⟨x, y, z⟩ := h
    obtain ⟨x', y', z'⟩ := h'
    have dm : p * s - q * r = 1 := dm
    have dm' : p' * s' - q' * r' = 1 := dm'
    have e : (x, y, z) = actF (a, b, c) p q r s := e
    have e' : (x', y', z') = actF (a, b, c) p' q' r' s' := e'
    have R : RedD (g * x) (g * y) (g * z) := R
    have R' : RedD (g * x') (g * y') (g * z') := R'
    have ef : (a, b, c) = actF (x, y, z) s (-q) (-r) p := by rw [e, actF_inv _ dm]
    rw [ef, actF_mul] at e'
    have dd := det_mul (det_inv dm) dm'
    have v1 : x' = fA x y z _ _ := congrArg (fun f : Fm => f.1) e'
    have v2 : y' = fB x y z _ _ _ _ := congrArg (fun f : Fm => f.2.1) e'
    have v3 : z' = fA x y z _ _ := congrArg (fun f : Fm => f.2.2) e'
    have dF := pf_dsc hg1 F
    have dx : dsc x y z = -E := by
      have u1 : x = fA a b c p r := congrArg (fun f : Fm => f.1) e
      have u2 : y = fB a b c p q r s := congrArg (fun f : Fm => f.2.1) e
      have u3 : z = fA a b c q s := congrArg (fun f : Fm => f.2.2) e
      rw [u1, u2, u3, dsc_act, dm, dF, Int.mul_one, Int.mul_one]
    generalize s * p' + -q * r' = w1 at *
    generalize s * q' + -q * s' = w2 at *
    generalize -r * p' + p * r' = w3 at *
    generalize -r * q' + p * s' = w4 at *
    have dx' : dsc x' y' z' = -E := by rw [v1, v2, v3, dsc_act, dd, dx, Int.mul_one, Int.mul_one]
    have G := pf_of hg1 dx F.e0 F.e1 (redD_pos R)
    have G' := pf_of hg1 dx' F.e0 F.e1 (redD_pos R')
    obtain ⟨t1, t2, t3⟩ := uniq G R G' R' dd (by rw [fA_sg, ← v1]) (by rw [fB_sg, ← v2]) (by rw [fA_sg, ← v3])
    exact fm_ext (sg_cancel hg1 t1) (sg_cancel hg1 t2) (sg_cancel hg1 t3)
  | i D => exact canF_uniq (n := (1, 0, 0, 1)) I.2 C' C rfl (actF_one _).symm
  | s k =>
    obtain ⟨c1, p, q, r, s, rfl, C⟩ := C
    obtain ⟨c2, p', q', r', s', rfl, C'⟩ := C'
    have u := actF_one (a, b, c)
    have u1 : fA a b c 1 0 = a := congrArg (fun f : Fm => f.1) u
    have u2 : fB a b c 1 0 0 1 = b := congrArg (fun f : Fm => f.2.1) u
    have u3 : fA a b c 0 1 = c := congrArg (fun f : Fm => f.2.2) u
    have e := cs_uniq (n1 := 1) (n2 := 0) (n3 := 0) (n4 := 1) I.1.k0 C rfl (by rw [u1, u2, u3]; exact C')
    rw [e]
  | f g p q => exact (show h = (g, 0, 0) from C).trans (show h' = (g, 0, 0) from C').symm
/-- every flat form has its parts -/
theorem flat_of {a b c : Int} (h : dsc a b c = 0) : ∃ g p q, FlatR a b c g p q := by
  unfold dsc at h
  have hb : b % 2 = 0 := by
    have e2 : b * b = 2 * ((b / 2) * (b / 2) * 2 + 2 * (b / 2) * (b % 2)) + (b % 2) * (b % 2) := by
      have h := Int.mul_ediv_add_emod b 2
      generalize b / 2 = x at *
      generalize b % 2 = y at *
      rw [← h]
      grind
    rw [Int.mul_assoc 4] at h
    rcases Int.emod_two_eq b with w | w
    · exact w
    · rw [w] at e2
      generalize a * c = u at *
      generalize (b / 2) * (b / 2) = v at *
      omega
  obtain ⟨t, rfl⟩ : ∃ t, b = 2 * t := ⟨b / 2, by omega⟩
  have h1 : t * t = a * c := by
    have e : 2 * t * (2 * t) - 4 * a * c = 4 * (t * t - a * c) := by grind
    rw [e] at h
    omega
  by_cases a0 : a = 0
  · subst a0
    have t0 : t = 0 := by
      rw [Int.zero_mul] at h1
      exact (Int.mul_eq_zero.mp h1).elim id id
    subst t0
    by_cases c0 : c = 0
    · exact ⟨0, 1, 0, .inl ⟨rfl, rfl, c0, rfl, rfl, rfl⟩⟩
    · obtain ⟨g, p, q, F⟩ := FL.of (a := 0) (b := 2 * 0) (c := c) (g := c) (P := 0) (Q := 1) c0 (.inr (by decide)) (by simp) (by simp) (by simp)
      exact ⟨g, p, q, .inr F⟩
  · -- the measure of a and t
    have G0 : Nat.gcd a.natAbs t.natAbs ≠ 0 := by
      intro z
      have := Nat.eq_zero_of_gcd_eq_zero_left z
      omega
    obtain ⟨⟨G, hG0, p, q, ea, et, co⟩⟩ : Nonempty (∃ G : Int, G ≠ 0 ∧ ∃ p q : Int, a = G * p ∧ t = G * q ∧ Nat.Coprime p.natAbs q.natAbs) := by
      refine ⟨((Nat.gcd a.natAbs t.natAbs : Nat) : Int), by omega, ?_⟩
      obtain ⟨p, hp⟩ : ((Nat.gcd a.natAbs t.natAbs : Nat) : Int) ∣ a := Int.ofNat_dvd_left.mpr (Nat.gcd_dvd_left _ _)
      obtain ⟨q, hq⟩ : ((Nat.gcd a.natAbs t.natAbs : Nat) : Int) ∣ t := Int.ofNat_dvd_left.mpr (Nat.gcd_dvd_right _ _)
      refine ⟨p, q, hp, hq, ?_⟩
      have e : Nat.gcd a.natAbs t.natAbs = Nat.gcd a.natAbs t.natAbs * Nat.gcd p.natAbs q.natAbs := by
        rw [← Nat.gcd_mul_left]
        have h1 : a.natAbs = Nat.gcd a.natAbs t.natAbs * p.natAbs := by
          have h := congrArg Int.natAbs hp
          rw [Int.natAbs_mul] at h
          exact h
        have h2 : t.natAbs = Nat.gcd a.natAbs t.natAbs * q.natAbs := by
          have h := congrArg Int.natAbs hq
          rw [Int.natAbs_mul] at h
          exact h
        rw [← h1, ← h2]
      have e2 : Nat.gcd a.natAbs t.natAbs * Nat.gcd p.natAbs q.natAbs = Nat.gcd a.natAbs t.natAbs * 1 := by rw [← e, Nat.mul_one]
      exact Nat.eq_of_mul_eq_mul_left (by omega) e2
    have h2 : G * (q * q) = p * c := by
      refine Int.eq_of_mul_eq_mul_left hG0 ?_
      have e : G * (G * (q * q)) = t * t := by rw [et]; grind
      rw [e, h1, ea]
      grind
    have p0 : p ≠ 0 := by
      rintro rfl
      omega
    have hd : p ∣ G := by
      refine Int.natAbs_dvd_natAbs.mp ?_
      have h3 : p.natAbs ∣ G.natAbs * (q.natAbs * q.natAbs) := by
        have : G.natAbs * (q.natAbs * q.natAbs) = p.natAbs * c.natAbs := by
          have h := congrArg Int.natAbs h2
          rw [Int.natAbs_mul, Int.natAbs_mul, Int.natAbs_mul] at h
          exact h
        rw [this]
        exact ⟨_, rfl⟩
      exact Nat.Coprime.dvd_of_dvd_mul_right (Nat.Coprime.mul_right co co) h3
    obtain ⟨g, rfl⟩ := hd
    have h3 : c = g * (q * q) := by
      refine Int.eq_of_mul_eq_mul_left p0 ?_
      rw [← h2]
      grind
    have g0 : g ≠ 0 := by
      rintro rfl
      omega
    obtain ⟨g', p', q', F⟩ := FL.of (a := a) (b := 2 * t) (c := c) (g := g) (P := p) (Q := q) g0 (.inl p0) (by rw [ea]; grind) (by rw [et]; grind) h3
    exact ⟨g', p', q', .inr F⟩
/-- discriminants that the promises take -/
structure Dk (D : Int) : Prop where
  lo : -10000 ≤ D
  hi : D ≤ 1000000
  ns : rootI D * rootI D ≠ D → D ≤ 3200
theorem flatR_dsc {a b c g p q : Int} (F : FlatR a b c g p q) : dsc a b c = 0 := by
  rcases F with ⟨rfl, rfl, rfl, _⟩ | F
  · rfl
  · rw [F.ea, F.eb, F.ec]
    unfold dsc
    grind
theorem inS_dk {S : Srt} {a b c : Int} (h : InS S (a, b, c)) : Dk (dsc a b c) := by
  cases S with
  | d E g =>
    obtain ⟨hg, F⟩ := h
    have e : dsc a b c = -E := pf_dsc (sg_or hg) F
    have := F.e0
    have := F.e1
    exact ⟨by omega, by omega, fun _ => by omega⟩
  | i D =>
    obtain ⟨F, hD⟩ := h
    have e : dsc a b c = D := F.d
    have := F.d0
    exact ⟨by omega, by omega, fun _ => by omega⟩
  | s k =>
    obtain ⟨F, hk⟩ := h
    have e : dsc a b c = k * k := F.d
    have r : rootI (dsc a b c) = k := F.root
    have k0 := F.k0
    have k2 : k * k ≤ 1000000 := Int.mul_le_mul hk hk (by omega) (by omega)
    have k3 : 0 ≤ k * k := Int.mul_nonneg (by omega) (by omega)
    exact ⟨by omega, by omega, fun z => absurd (by rw [r, e]) z⟩
  | f g p q =>
    have e : dsc a b c = 0 := flatR_dsc (show FlatR a b c g p q from h)
    rw [e]
    exact ⟨by decide, by decide, fun _ => by decide⟩
theorem inS_of {a b c : Int} (h : Dk (dsc a b c)) : ∃ S, InS S (a, b, c) := by
  obtain ⟨h1, h2, h3⟩ := h
  rcases Int.lt_trichotomy (dsc a b c) 0 with z | z | z
  · have a0 : a ≠ 0 := by
      rintro rfl
      have e : dsc 0 b c = b * b := by unfold dsc; grind
      have := sqn b
      omega
    rcases Int.lt_or_gt_of_ne a0 with w | w
    · exact ⟨.d (-dsc a b c) (-1), .inr ⟨rfl, w⟩, pf_of (.inr rfl) (Int.neg_neg (dsc a b c)).symm (by omega) (by omega) (by show 0 < -1 * a; omega)⟩
    · exact ⟨.d (-dsc a b c) 1, .inl ⟨rfl, w⟩, pf_of (.inl rfl) (Int.neg_neg (dsc a b c)).symm (by omega) (by omega) (by show 0 < 1 * a; omega)⟩
  · obtain ⟨g, p, q, F⟩ := flat_of z
    exact ⟨.f g p q, F⟩
  · obtain ⟨r0, r1, r2⟩ := rootI_spec (n := dsc a b c) (by omega)
    by_cases w : rootI (dsc a b c) * rootI (dsc a b c) = dsc a b c
    · refine ⟨.s (rootI (dsc a b c)), ⟨w.symm, ?_⟩, ?_⟩
      · by_cases y : rootI (dsc a b c) = 0
        · rw [y] at w
          omega
        · show 0 < rootI (dsc a b c)
          omega
      · show rootI (dsc a b c) ≤ 1000
        by_cases y : rootI (dsc a b c) ≤ 1000
        · exact y
        · have := Int.mul_le_mul (show 1001 ≤ rootI (dsc a b c) by omega) (show 1001 ≤ rootI (dsc a b c) by omega) (by omega) (by omega)
          omega
    · exact ⟨.i (dsc a b c), ⟨rfl, z, by have := h3 w; omega, w⟩, h3 w⟩
theorem inS_kd {S : Srt} {a b c : Int} (h : InS S (a, b, c)) : kindS (dsc a b c) = kdS S := by
  unfold kindS
  cases S with
  | d E g =>
    obtain ⟨hg, F⟩ := h
    have e : dsc a b c = -E := pf_dsc (sg_or hg) F
    have := F.e0
    rw [if_pos (by omega)]
    rfl
  | i D =>
    obtain ⟨F, hD⟩ := h
    have e : dsc a b c = D := F.d
    have := F.d0
    have ns := F.ns
    rw [e, if_neg (by omega), if_neg (by omega), if_neg ns]
    rfl
  | s k =>
    obtain ⟨F, hk⟩ := h
    have k0 := F.k0
    have p : 0 < k * k := Int.mul_pos k0 k0
    have r : rootI (dsc a b c) = k := F.root
    have d : dsc a b c = k * k := F.d
    rw [if_neg (by omega), if_neg (by omega), r, if_pos d.symm]
    rfl
  | f g p q =>
    have e : dsc a b c = 0 := flatR_dsc (show FlatR a b c g p q from h)
    rw [if_neg (by omega), if_pos e]
    rfl
theorem dsc_mir (a b c : Int) : dsc a (-b) c = dsc a b c := by
  unfold dsc
  grind
theorem dsc_neg (a b c : Int) : dsc (-a) b (-c) = dsc a b c := by
  unfold dsc
  grind
theorem act_mir (a b c : Int) : a * 1 * 1 + b * 1 * 0 + c * 0 * 0 = a ∧ 2 * a * 1 * 0 + b * (1 * (-1) + 0 * 0) + 2 * c * 0 * (-1) = -b ∧ a * 0 * 0 + b * 0 * (-1) + c * (-1) * (-1) = c := by
  refine ⟨by grind, by grind, by grind⟩
theorem inS_mir {S : Srt} {a b c : Int} (h : InS S (a, b, c)) : ∃ S', InS S' (a, -b, c) := inS_of (by rw [dsc_mir]; exact inS_dk h)
/-- what canonical_form gives -/
structure CnI (S : Srt) (f h : Fm) (m : M4) : Prop where
  det : detM m = 1
  act : h = actM f m
  bd : BdM 36901 m
  cn : CnS S f h
theorem CnI.ofS {k a b c c' p q r s : Int} (C : CS k a b c c' p q r s) (b1 : Bd 9500 p) (b2 : Bd 19100 q) (b3 : Bd 9500 r) (b4 : Bd 19100 s) : CnI (.s k) (a, b, c) (0, k, c') (p, q, r, s) :=
  ⟨C.det, fm_ext C.ea C.eb C.ec, ⟨b1.mono (by decide), b2.mono (by decide), b3.mono (by decide), b4.mono (by decide)⟩, ⟨c', p, q, r, s, rfl, C⟩⟩
theorem CnI.ofF {a b c g p q u v : Int} (F : FlatR a b c g p q) (e : u * p + v * q = 1) (b1 : Bd 9404 u) (b2 : Bd 50 q) (b3 : Bd 9404 v) (b4 : Bd 50 p) : CnI (.f g p q) (a, b, c) (g, 0, 0) (u, -q, v, p) := by
  have hh : u * p - -q * v = 1 ∧ g = fA a b c u v ∧ 0 = fB a b c u (-q) v p ∧ 0 = fA a b c (-q) p := by
    rcases F with ⟨rfl, rfl, rfl, rfl, rfl, rfl⟩ | F
    · refine ⟨by rw [← e]; grind, by unfold fA; grind, by unfold fB; grind, by unfold fA; grind⟩
    · exact flat_leads F e
  exact ⟨hh.1, fm_ext hh.2.1 hh.2.2.1 hh.2.2.2, ⟨b1.mono (by decide), b2.neg.mono (by decide), b3.mono (by decide), b4.mono (by decide)⟩, rfl⟩
theorem FlatR.bd {a b c g p q : Int} (F : FlatR a b c g p q) (h1 : a.natAbs ≤ 274877906944) (h3 : c.natAbs ≤ 274877906944) : Bd 50 g ∧ Bd 50 p ∧ Bd 50 q := by
  have e50 : (2 : Nat) ^ 50 = 1125899906842624 := by decide
  unfold Bd
  rw [e50]
  rcases F with ⟨rfl, rfl, rfl, rfl, rfl, rfl⟩ | F
  · exact ⟨by decide, by decide, by decide⟩
  · obtain ⟨f1, f2, f3⟩ := F.bd
    exact ⟨by omega, by omega, by omega⟩
/-- from one form to another of its class -/
theorem lead {f f' h : Fm} {p q r s p' q' r' s' : Int} (d1 : p * s - q * r = 1) (d2 : p' * s' - q' * r' = 1) (e1 : h = actF f p q r s) (e2 : h = actF f' p' q' r' s') :
    (p * s' + q * -r') * (r * -q' + s * p') - (p * -q' + q * p') * (r * s' + s * -r') = 1 ∧ f' = actF f (p * s' + q * -r') (p * -q' + q * p') (r * s' + s * -r') (r * -q' + s * p') := by
  refine ⟨det_mul d1 (det_inv d2), ?_⟩
  rw [← actF_mul, ← e1, e2, actF_inv _ d2]
theorem lead_mir {a b c p q r s : Int} {f' : Fm} (d : p * s - q * r = 1) (e : f' = actF (a, -b, c) p q r s) :
    (1 * p + 0 * r) * (0 * q + -1 * s) - (1 * q + 0 * s) * (0 * p + -1 * r) = -1 ∧ f' = actF (a, b, c) (1 * p + 0 * r) (1 * q + 0 * s) (0 * p + -1 * r) (0 * q + -1 * s) := by
  refine ⟨by grind, ?_⟩
  rw [e]
  unfold actF
  refine fm_ext ?_ ?_ ?_ <;> (dsimp only; (try unfold fA); (try unfold fB); grind)

/-! ### sorted of int tuples -/
def leT (t u : List Int) : Prop := PySem.W.listLt u t = false
theorem leT_antisymm {t u : List Int} (h1 : leT t u) (h2 : leT u t) : t = u := ints_total _ _ h2 h1
def rSortedT (K : PySem.W.Frag) : List V → Hp → VK → Prop := fun vs H Q => ∃ (a : Addr) (ys : List V) (ts : List (List Int)), vs = [V.ref a] ∧ SqL K H a ys ∧ Tps K H ys ts ∧ (∀ t ∈ ts, t ≠ []) ∧
  ∀ (zs : List V) (us : List (List Int)) (p : Addr), us.Perm ts → us.Pairwise leT → H p = none → Tps K H zs us → Q (.ref p) (upd H p (.lst zs))
theorem tps_pairs {K : PySem.W.Frag} {H : Hp} : ∀ {ys : List V} {ts : List (List Int)} {its : List Value}, Tps K H ys ts → Vals ys its → ∃ bs : List (Addr × List Int), bs.map (·.2) = ts ∧ bs.map (fun b => Value.ref b.1) = its ∧ ∀ b ∈ bs, SqT K H b.1 (b.2.map V.int)
  | _, _, _, .nil, .nil => ⟨[], rfl, rfl, fun b h => by cases h⟩
  | _, _, _, .cons (a := a) (t := t) s tl, .cons r rl => by
    obtain ⟨bs, h1, h2, h3⟩ := tps_pairs tl rl
    refine ⟨(a, t) :: bs, by rw [List.map_cons, h1], ?_, fun b hb => ?_⟩
    · rw [List.map_cons, h2, show Value.ref (a, t).1 = _ from (show _ = Value.ref a from r).symm]
    · rcases List.mem_cons.mp hb with rfl | hb
      · exact s
      · exact h3 b hb
theorem pairs_tps {K : PySem.W.Frag} {H : Hp} : ∀ {bs : List (Addr × List Int)}, (∀ b ∈ bs, SqT K H b.1 (b.2.map V.int)) → Tps K H (bs.map fun b => V.ref b.1) (bs.map (·.2))
  | [], _ => .nil
  | b :: bs, h => .cons (h b List.mem_cons_self) (pairs_tps fun c hc => h c (List.mem_cons_of_mem _ hc))
theorem pairs_vals : ∀ bs : List (Addr × List Int), Vals (bs.map fun b => V.ref b.1) (bs.map fun b => Value.ref b.1)
  | [] => .nil
  | b :: bs => .cons (show RelV (V.ref b.1) (Value.ref b.1) from rfl) (pairs_vals bs)
theorem each_ref : ∀ bs : List (Addr × List Int), PySem.W.EachIs (fun (v : Value) (b : Addr × List Int) => v = Value.ref b.1) (bs.map fun b => Value.ref b.1) bs
  | [] => .nil
  | b :: bs => .cons rfl (each_ref bs)
theorem ref_each : ∀ {out : List Value} {bs : List (Addr × List Int)}, PySem.W.EachIs (fun (v : Value) (b : Addr × List Int) => v = Value.ref b.1) out bs → out = bs.map fun b => Value.ref b.1
  | _, _, .nil => rfl
  | _, _, .cons h t => by rw [h, ref_each t, List.map_cons]
theorem each_reads {h : Heap} : ∀ {vs : List Value} {bs : List (Addr × List Int)} {as : List Addr}, ReadsAll h vs (bs.map fun b => tD b.2) as → PySem.W.EachIs (fun v b => ∃ as, Reads h v (tD b.2) as) vs bs
  | [], [], _, _ => .nil
  | v :: vs, b :: bs, _, r => by
    rw [List.map_cons] at r
    cases r with
    | cons r1 r2 => exact .cons ⟨_, r1⟩ (each_reads r2)
  | [], b :: bs, _, r => by
    rw [List.map_cons] at r
    cases r
  | v :: vs, [], _, r => by
    rw [List.map_nil] at r
    cases r
theorem toD_tup (t : List Int) : PySem.W.Datum.toD (PySem.W.Tup.mk t) = tD t := rfl
theorem dataLe_tup {β : Type} (f : β → List Int) (p q : β) : PySem.W.dataLe false (fun b => tD (f b)) p q = !PySem.W.listLt (f q) (f p) := by
  rw [PySem.W.dataLe_eq]
  show (!PySem.W.dataLt (tD (f q)) (tD (f p))) = _
  rw [← toD_tup, ← toD_tup, PySem.W.DatumOrd.lt_eq]
  rfl
theorem le_total9 (t u : List Int) : PySem.W.listLt t u = false ∨ PySem.W.listLt u t = false := by
  cases h1 : PySem.W.listLt t u
  · exact .inl rfl
  · cases h2 : PySem.W.listLt u t
    · exact .inr rfl
    · have := ord_trans (a := PySem.W.Tup.mk t) (b := PySem.W.Tup.mk u) (c := PySem.W.Tup.mk t) h1 h2
      rw [ord_irr] at this
      cases this
theorem leT_trans {a b c : List Int} (h1 : leT a b) (h2 : leT b c) : leT a c := by
  unfold leT at *
  cases h : PySem.W.listLt c a
  · rfl
  · exfalso
    -- c < a, not b < a, so c < b
    have h' : PySem.W.DatumOrd.lt (PySem.W.Tup.mk c) (PySem.W.Tup.mk a) = true := h
    have h1' : PySem.W.DatumOrd.lt (PySem.W.Tup.mk b) (PySem.W.Tup.mk a) = false := h1
    have h2' : PySem.W.DatumOrd.lt (PySem.W.Tup.mk c) (PySem.W.Tup.mk b) = false := h2
    rw [← PySem.W.DatumOrd.lt_eq] at h' h1' h2'
    rcases (PyProof.Rows.lex_negTrans (O := PyProof.Rows.itemOrd) _ (PySem.W.keyToks (PySem.W.Datum.toD (PySem.W.Tup.mk b))) _ h' : _ ∨ _) with t | t
    · exact absurd (show PySem.W.dataLt _ _ = true from t) (by rw [h2']; decide)
    · exact absurd (show PySem.W.dataLt _ _ = true from t) (by rw [h1']; decide)
theorem cr_sortedT {X : Cx} (hu : X.A.units + 65 < cLine) : CallR X (.builtin "sorted") (rSortedT X.K) := by
  intro pins s σ H vs us Q I r h
  obtain ⟨a, ys, ts, rfl, hs, ht, hne, q⟩ := h
  obtain ⟨its, rv, hl, hz⟩ := I.list hs
  rw [Vals.ref1 r]
  obtain ⟨as, ra⟩ := Dp.readsAll I _ _ its ht.dp rv
  have hyl := rv.length
  obtain ⟨bs, e1, e2, e3⟩ := tps_pairs ht rv
  subst e1 e2
  rw [List.map_map] at ra
  have hbl : bs.length ≤ sizeLine := by
    have := ht.len
    rw [List.length_map] at this
    omega
  refine PySem.W.sorted_data (β := Addr × List Int) (bs := bs) (enc := fun b => tD b.2) (R := fun v b => v = Value.ref b.1) hl.isList (each_ref bs) (each_reads ra) ?_ ?_ hbl (fun b _ => ?_) (fun out hol ho => ?_)
  · exact PySem.W.AllAlike.of fun b b' => PySem.W.DatumOrd.alike (PySem.W.Tup.mk b.2) (PySem.W.Tup.mk b'.2)
  · refine .inl fun d hd => ?_
    obtain ⟨b, hb, rfl⟩ := List.mem_map.mp hd
    have hn := hne b.2 (List.mem_map.mpr ⟨b, hb, rfl⟩)
    cases hbb : b.2 with
    | nil => exact absurd hbb hn
    | cons x xs => exact ⟨PyData.int x, xs.map PyData.int, rfl⟩
  · have := PySem.W.Datum.depth_le (PySem.W.Tup.mk b.2)
    rw [toD_tup] at this
    have d1 : PySem.W.Datum.depth (PySem.W.Tup Int) ≤ 60 := by decide
    show X.A.units + 2 + (tD b.2).depth < cLine
    omega
  · have eo := ref_each ho
    subst eo
    have hp : (bs.mergeSort (PySem.W.dataLe false fun b => tD b.2)).Perm bs := List.mergeSort_perm _ _
    have hs2 : (bs.mergeSort (PySem.W.dataLe false fun b => tD b.2)).Pairwise (fun p q => leT p.2 q.2) := by
      have h := List.pairwise_mergeSort (le := PySem.W.dataLe false fun b : Addr × List Int => tD b.2) (fun p q r h1 h2 => by
        rw [dataLe_tup (fun b : Addr × List Int => b.2)] at *
        have := leT_trans (a := p.2) (b := q.2) (c := r.2) (by unfold leT; simpa using h1) (by unfold leT; simpa using h2)
        rw [show PySem.W.listLt r.2 p.2 = false from this]
        rfl) (fun p q => by
        rw [dataLe_tup (fun b : Addr × List Int => b.2), dataLe_tup (fun b : Addr × List Int => b.2)]
        rcases le_total9 q.2 p.2 with h | h <;> rw [h] <;> simp) bs
      refine List.Pairwise.imp (fun {p q} h => ?_) h
      rw [dataLe_tup (fun b : Addr × List Int => b.2)] at h
      show PySem.W.listLt q.2 p.2 = false
      simpa using h
    generalize bs.mergeSort (PySem.W.dataLe false fun b => tD b.2) = ms at *
    obtain ⟨e, he⟩ := PyProof.Rows.sortedAll_at s.heap (bs.map fun b => Value.ref b.1) (ms.map fun b => Value.ref b.1).toArray
    refine ⟨.ref (s.heap.objs.size + 1), upd H (s.heap.objs.size + 1) (.lst (ms.map fun b => V.ref b.1)), I.laid (t' := s.toks) (fun b u h => PyProof.Rows.sortedAll_old h) (Nat.le_succ _) ⟨?_, _, e, pairs_vals ms, he⟩, rfl, q _ (ms.map (·.2)) _ (hp.map _) (List.pairwise_map.mpr hs2) (I.hok.fresh (Nat.le_succ _)) (pairs_tps fun b hb => e3 b (hp.mem_iff.mp hb))⟩
    rw [List.length_map, hp.length_eq]
    exact hbl
theorem srtTQ {X : Cx} (K : PySem.W.Frag) (hu : X.A.units + 65 < cLine) (h : X.K = K := by rfl) : CallR X (.builtin "sorted") (rSortedT K) := by
  subst h
  exact cr_sortedT hu
theorem perm_leT : ∀ {us ts : List (List Int)}, us.Perm ts → us.Pairwise leT → ts.Pairwise leT → us = ts
  | [], [], _, _, _ => rfl
  | [], _ :: _, h, _, _ => by have := h.length_eq; cases this
  | _ :: _, [], h, _, _ => by have := h.length_eq; cases this
  | u :: us, t :: ts, h, h1, h2 => by
    obtain ⟨a1, a2⟩ := List.pairwise_cons.mp h1
    obtain ⟨b1, b2⟩ := List.pairwise_cons.mp h2
    have e : u = t := by
      rcases List.mem_cons.mp (h.mem_iff.mp List.mem_cons_self) with e | hu
      · exact e
      · rcases List.mem_cons.mp (h.mem_iff.mpr (List.mem_cons_self (a := t) (l := ts))) with e | ht
        · exact e.symm
        · exact leT_antisymm (a1 t ht) (b1 u hu)
    subst e
    rw [perm_leT h.cons_inv a2 b2]
namespace R
theorem srtT {K : PySem.W.Frag} {H : Hp} {Q : VK} {a : Addr} {vs : List V} {ts : List (List Int)} (h : SqL K H a vs) (ht : Tps K H vs ts) (hne : ∀ t ∈ ts, t ≠ [])
    (q : ∀ zs us H' p, us.Perm ts → us.Pairwise leT → Same H H' → H p = none → H' p = some (.lst zs) → Tps K H' zs us → Q (.ref p) H') : rSortedT K [.ref a] H Q :=
  ⟨a, vs, ts, rfl, h, ht, hne, fun zs us p h1 h2 np h3 => q zs us _ p h1 h2 (same_upd np) np upd_same (h3.same (same_upd np))⟩
end R

/-! ### lists of new tuples -/
namespace R
section
variable {K : PySem.W.Frag} {te : TE} {σ : L2.St} {H : Hp} {Q : VK}
theorem mapi_snoc {α : Type} (f : Nat → α) (i : Nat) : (List.range (i + 1)).map f = (List.range i).map f ++ [f i] := by
  rw [List.range_succ, List.map_append]
  rfl
/-- a comprehension over a tuple of any things, each gives a new tuple of ints -/
theorem lcTp {a : Addr} {xs : List V} {g : TG} {vs : List Nat} (f : Nat → List Int) (hl : xs.length ≤ 1000) (hT : SqT K H a xs)
    (hs : ∀ (i : Nat) (x : V) (H' : Hp) (Q' : VK), xs[i]? = some x → Same H H' → (∀ H2 p, Same H' H2 → SqT K H2 p ((f i).map V.int) → Q' (.ref p) H2) → g x (wipe σ vs) H' fun σ2 H2 => wipe σ2 vs = wipe σ vs ∧ te σ2 H2 Q')
    (hq : ∀ H' D ys, H' D = some (.lst ys) → Tps K H' ys ((List.range xs.length).map f) → Same H H' → H D = none → Q (.ref D) H') : LcJ (Itt K a) g tYes te vs σ H Q := by
  intro D nD
  refine lc_tup (K := K) (a := a) (xs := xs) (fun i H' => ∃ ys, H' D = some (.lst ys) ∧ ys.length = i ∧ Tps K H' ys ((List.range i).map f) ∧ Same H H') ⟨[], upd_same, rfl, .nil, same_upd nD⟩ (fun i H' _ h => same_seqT h.choose_spec.2.2.2 hT) (fun i x H5 hx ⟨ys, h1, h2, h3, h5⟩ => ?_) (fun H5 ⟨ys, h1, h2, h3, h5⟩ => ?_)
  · have hi : i < xs.length := (List.getElem?_eq_some_iff.mp hx).1
    refine hs i x H5 _ hx h5 (fun H2 p s2 sp => ⟨ys, s2 _ _ h1, ?_, ys ++ [.ref p], ?_, ?_, ?_, ?_⟩)
    · exact small1000 (by omega)
    · rw [upd_same]
    · rw [List.length_append, h2]
      rfl
    · rw [mapi_snoc]
      exact ((h3.same s2).kt fun c zs h => upd_seqT (s2 _ _ h1) h).snoc (upd_seqT (s2 _ _ h1) sp)
    · exact same_mut (h5.trans s2) nD
  · exact hq H5 D ys h1 h3 h5 nD
end
end R
/-! ### self changes of definite forms, classes -/
def unitsL (d : Int) : List (Int × Int) := if d = -3 then [(2, 0), (1, 1), (-1, 1), (-2, 0), (-1, -1), (1, -1)] else if d = -4 then [(2, 0), (0, 1), (-2, 0), (0, -1)] else [(2, 0), (-2, 0)]
def ucM (a b c t u : Int) : List Int := [(t - b * u) / 2, -c * u, a * u, (t + b * u) / 2]
def selfL (a b c : Int) : List (List Int) := (unitsL (dsc (a.fdiv (gL [a, b, c])) (b.fdiv (gL [a, b, c])) (c.fdiv (gL [a, b, c])))).map fun p => ucM (a.fdiv (gL [a, b, c])) (b.fdiv (gL [a, b, c])) (c.fdiv (gL [a, b, c])) p.1 p.2
/-- a place of the walk over a and b -/
def okC (d a b : Int) : Bool := decide ((b * b - d) % (4 * a) = 0) && (decide (RedD a b ((b * b - d) / (4 * a))) && decide (gL [a, b, (b * b - d) / (4 * a)] = 1))
def cellC (d a b : Int) : List (List Int) := if okC d a b then [[a, b, (b * b - d) / (4 * a)]] else []
def rowC (d a : Int) (n : Nat) : List (List Int) := (List.range n).flatMap fun (j : Nat) => cellC d a (1 - a + (j : Int))
def clsC (d : Int) (n : Nat) : List (List Int) := (List.range n).flatMap fun (i : Nat) => rowC d (1 + (i : Int)) (2 * (i + 1))
theorem rowC_succ (d a : Int) (n : Nat) : rowC d a (n + 1) = rowC d a n ++ cellC d a (1 - a + (n : Int)) := by
  unfold rowC
  rw [List.range_succ, List.flatMap_append]
  simp
theorem clsC_succ (d : Int) (n : Nat) : clsC d (n + 1) = clsC d n ++ rowC d (1 + (n : Int)) (2 * (n + 1)) := by
  unfold clsC
  rw [List.range_succ, List.flatMap_append]
  simp
theorem rowC_len (d a : Int) : ∀ n : Nat, (rowC d a n).length ≤ n
  | 0 => Nat.le_refl _
  | n + 1 => by
    rw [rowC_succ, List.length_append]
    have := rowC_len d a n
    have : (cellC d a (1 - a + (n : Int))).length ≤ 1 := by
      unfold cellC
      split <;> simp
    omega
theorem clsC_len (d : Int) : ∀ n : Nat, (clsC d n).length ≤ n * (n + 1)
  | 0 => Nat.le_refl _
  | n + 1 => by
    rw [clsC_succ, List.length_append]
    have := clsC_len d n
    have := rowC_len d (1 + (n : Int)) (2 * (n + 1))
    have e : (n + 1) * (n + 1 + 1) = n * (n + 1) + 2 * (n + 1) := by
      rw [Nat.add_mul, Nat.mul_add, Nat.mul_add]
      omega
    omega
/-- how many values of a there are -/
def manyC (d : Int) : Nat := (rootI ((-d) / 3)).toNat
theorem mem_rowC {d a : Int} {n : Nat} {t : List Int} (h : t ∈ rowC d a n) : ∃ j : Nat, j < n ∧ okC d a (1 - a + (j : Int)) = true ∧ t = [a, 1 - a + (j : Int), ((1 - a + (j : Int)) * (1 - a + (j : Int)) - d) / (4 * a)] := by
  unfold rowC at h
  obtain ⟨j, hj, ht⟩ := List.mem_flatMap.mp h
  unfold cellC at ht
  split at ht
  · rename_i hk
    exact ⟨j, List.mem_range.mp hj, hk, List.mem_singleton.mp ht⟩
  · cases ht
theorem lt_head {x y : Int} {xs ys : List Int} (h : x < y) : PySem.W.listLt (x :: xs) (y :: ys) = true := by
  unfold PySem.W.listLt
  rw [if_neg (by omega)]
  exact decide_eq_true h
theorem le_head {x y : Int} {xs ys : List Int} (h : x < y) : leT (x :: xs) (y :: ys) := by
  unfold leT PySem.W.listLt
  rw [if_neg (by omega)]
  exact decide_eq_false (show ¬ y < x by omega)
theorem le_tail {x : Int} {xs ys : List Int} (h : leT xs ys) : leT (x :: xs) (x :: ys) := by
  unfold leT at *
  unfold PySem.W.listLt
  rw [if_pos rfl]
  exact h
/-- the walk goes up -/
theorem rowC_sorted (d a : Int) : ∀ n : Nat, (rowC d a n).Pairwise leT
  | 0 => List.Pairwise.nil
  | n + 1 => by
    rw [rowC_succ]
    refine List.pairwise_append.mpr ⟨rowC_sorted d a n, ?_, fun x hx y hy => ?_⟩
    · unfold cellC
      split
      · exact List.pairwise_singleton _ _
      · exact List.Pairwise.nil
    · obtain ⟨j, hj, _, rfl⟩ := mem_rowC hx
      unfold cellC at hy
      split at hy
      · rw [List.mem_singleton.mp hy]
        exact le_tail (le_head (by omega))
      · cases hy
theorem clsC_sorted (d : Int) : ∀ n : Nat, (clsC d n).Pairwise leT ∧ ∀ t ∈ clsC d n, ∃ a x y : Int, t = [a, x, y] ∧ a < 1 + (n : Int)
  | 0 => ⟨List.Pairwise.nil, fun t h => by cases h⟩
  | n + 1 => by
    obtain ⟨h1, h2⟩ := clsC_sorted d n
    rw [clsC_succ]
    refine ⟨List.pairwise_append.mpr ⟨h1, rowC_sorted _ _ _, fun x hx y hy => ?_⟩, fun t ht => ?_⟩
    · obtain ⟨a, x1, x2, rfl, ha⟩ := h2 x hx
      obtain ⟨j, _, _, rfl⟩ := mem_rowC hy
      exact le_head ha
    · rcases List.mem_append.mp ht with h | h
      · obtain ⟨a, x1, x2, rfl, ha⟩ := h2 t h
        exact ⟨a, x1, x2, rfl, by omega⟩
      · obtain ⟨j, _, _, rfl⟩ := mem_rowC h
        exact ⟨_, _, _, rfl, by omega⟩
theorem fix_lin {a b c p q r s : Int} (hd : p * s - q * r = 1) (e1 : fA a b c p r = a) (e2 : fB a b c p q r s = b) (e3 : fA a b c q s = c) : a * (s - p) = b * r ∧ a * q = -(c * r) ∧ b * q = -(c * (s - p)) := by
  unfold fA at e1 e3
  unfold fB at e2
  have h1 : 2 * (a * (s - p)) = 2 * (b * r) := by
    have x1 : (a * p * p + b * p * r + c * r * r) * (2 * s) - (2 * a * p * q + b * (p * s + q * r) + 2 * c * r * s) * r = (2 * a * p + b * r) * (p * s - q * r) := by grind
    rw [e1, e2, hd] at x1
    grind
  have h2 : 2 * (a * q) = 2 * -(c * r) := by
    have x2 : (2 * a * p * q + b * (p * s + q * r) + 2 * c * r * s) * s - (a * q * q + b * q * s + c * s * s) * (2 * r) = (2 * a * q + b * s) * (p * s - q * r) := by grind
    rw [e2, e3, hd] at x2
    grind
  have h3 : 2 * (b * q) = 2 * -(c * (s - p)) := by
    have x3 : (a * q * q + b * q * s + c * s * s) * (2 * p) - (2 * a * p * q + b * (p * s + q * r) + 2 * c * r * s) * q = (b * q + 2 * c * s) * (p * s - q * r) := by grind
    rw [e2, e3, hd] at x3
    grind
  exact ⟨by omega, by omega, by omega⟩
theorem bez_int (a b : Int) : ∃ u v : Int, u * a + v * b = ((Nat.gcd a.natAbs b.natAbs : Nat) : Int) := by
  obtain ⟨u, v, h⟩ := bez_ex b.natAbs a.natAbs b.natAbs (Nat.le_refl _)
  rcases Int.natAbs_eq a with ha | ha <;> rcases Int.natAbs_eq b with hb | hb
  · exact ⟨u, v, by rw [ha, hb, Int.natAbs_natCast, Int.natAbs_natCast]; exact h⟩
  · exact ⟨u, -v, by rw [ha, hb, Int.natAbs_neg, Int.natAbs_natCast, Int.natAbs_natCast, Int.neg_mul_neg]; exact h⟩
  · exact ⟨-u, v, by rw [ha, hb, Int.natAbs_neg, Int.natAbs_natCast, Int.natAbs_natCast, Int.neg_mul_neg]; exact h⟩
  · exact ⟨-u, -v, by rw [ha, hb, Int.natAbs_neg, Int.natAbs_neg, Int.natAbs_natCast, Int.natAbs_natCast, Int.neg_mul_neg, Int.neg_mul_neg]; exact h⟩
theorem bez_three (a b c : Int) : ∃ u v w : Int, u * a + v * b + w * c = gL [a, b, c] := by
  rw [gL_three]
  obtain ⟨u, v, h⟩ := bez_int a b
  obtain ⟨x, y, g⟩ := bez_int ((Nat.gcd a.natAbs b.natAbs : Nat) : Int) c
  rw [Int.natAbs_natCast] at g
  refine ⟨x * u, x * v, y, ?_⟩
  rw [← g, ← h]
  grind
/-- a self change of a primitive form comes from t and u -/
theorem fix_unit {a b c p q r s : Int} (h1 : gL [a, b, c] = 1) (hd : p * s - q * r = 1) (e1 : fA a b c p r = a) (e2 : fB a b c p q r s = b) (e3 : fA a b c q s = c) : ∃ t u : Int, 2 * p = t - b * u ∧ q = -c * u ∧ r = a * u ∧ 2 * s = t + b * u ∧ t * t = dsc a b c * (u * u) + 4 := by
  obtain ⟨l1, l2, l3⟩ := fix_lin hd e1 e2 e3
  obtain ⟨x, y, z, hb⟩ := bez_three a b c
  rw [h1] at hb
  have hr : r = a * (x * r + y * (s - p) + z * -q) := by
    have e : a * (x * r + y * (s - p) + z * -q) = x * (a * r) + y * (a * (s - p)) - z * (a * q) := by grind
    rw [e, l1, l2]
    have e9 : x * (a * r) + y * (b * r) - z * -(c * r) = r * (x * a + y * b + z * c) := by grind
    rw [e9, hb, Int.mul_one]
  have hs : s - p = b * (x * r + y * (s - p) + z * -q) := by
    have e : b * (x * r + y * (s - p) + z * -q) = x * (b * r) + y * (b * (s - p)) - z * (b * q) := by grind
    rw [e, ← l1, l3]
    have e9 : x * (a * (s - p)) + y * (b * (s - p)) - z * -(c * (s - p)) = (s - p) * (x * a + y * b + z * c) := by grind
    rw [e9, hb, Int.mul_one]
  have hq : q = -c * (x * r + y * (s - p) + z * -q) := by
    have e : -c * (x * r + y * (s - p) + z * -q) = x * -(c * r) + y * -(c * (s - p)) + z * (c * q) := by grind
    rw [e, ← l2, ← l3]
    have e9 : x * (a * q) + y * (b * q) + z * (c * q) = q * (x * a + y * b + z * c) := by grind
    rw [e9, hb, Int.mul_one]
  generalize x * r + y * (s - p) + z * -q = u at *
  refine ⟨p + s, u, by omega, hq, hr, by omega, ?_⟩
  have e5 : (p + s) * (p + s) = (s - p) * (s - p) + 4 * (q * r) + 4 := by
    have : (p + s) * (p + s) = (s - p) * (s - p) + 4 * (p * s - q * r) + 4 * (q * r) := by grind
    rw [this, hd]
    omega
  rw [e5, hs, hq, hr]
  unfold dsc
  grind
/-- definite forms: t and u stand in the list -/
theorem unit_def {d t u : Int} (h : t * t = d * (u * u) + 4) (d0 : d ≤ -3) (d1 : d % 4 = 0 ∨ d % 4 = 1) : (t, u) ∈ unitsL d := by
  have u2 : 0 ≤ u * u := sqn u
  have t2 : 0 ≤ t * t := sqn t
  have ub : u * u ≤ 1 := by
    by_cases z : u * u ≤ 1
    · exact z
    · have := Int.mul_le_mul_of_nonneg_right (show 3 ≤ -d by omega) u2
      have e : -d * (u * u) = -(d * (u * u)) := Int.neg_mul _ _
      omega
  have uc : u = 0 ∨ u = 1 ∨ u = -1 := by
    have h1 : u < 2 := by
      by_cases z : u < 2
      · exact z
      · have := Int.mul_le_mul (show 2 ≤ u by omega) (show 2 ≤ u by omega) (by omega) (by omega)
        omega
    have h2 : -2 < u := by
      by_cases z : -2 < u
      · exact z
      · have := Int.mul_le_mul (show 2 ≤ -u by omega) (show 2 ≤ -u by omega) (by omega) (by omega)
        rw [Int.neg_mul_neg] at this
        omega
    omega
  have tb : t * t ≤ 4 := by
    have := Int.mul_nonneg (show 0 ≤ -d by omega) u2
    have e : -d * (u * u) = -(d * (u * u)) := Int.neg_mul _ _
    omega
  have tc : t = 0 ∨ t = 1 ∨ t = -1 ∨ t = 2 ∨ t = -2 := by
    have h1 : t < 3 := by
      by_cases z : t < 3
      · exact z
      · have := Int.mul_le_mul (show 3 ≤ t by omega) (show 3 ≤ t by omega) (by omega) (by omega)
        omega
    have h2 : -3 < t := by
      by_cases z : -3 < t
      · exact z
      · have := Int.mul_le_mul (show 3 ≤ -t by omega) (show 3 ≤ -t by omega) (by omega) (by omega)
        rw [Int.neg_mul_neg] at this
        omega
    omega
  unfold unitsL
  by_cases d3 : d = -3
  · rw [if_pos d3]
    subst d3
    rcases uc with rfl | rfl | rfl <;> rcases tc with rfl | rfl | rfl | rfl | rfl <;> first | decide | (exfalso; omega)
  · rw [if_neg d3]
    by_cases d4 : d = -4
    · rw [if_pos d4]
      subst d4
      rcases uc with rfl | rfl | rfl <;> rcases tc with rfl | rfl | rfl | rfl | rfl <;> first | decide | (exfalso; omega)
    · rw [if_neg d4]
      rcases uc with rfl | rfl | rfl <;> rcases tc with rfl | rfl | rfl | rfl | rfl <;> first | decide | (exfalso; omega)
theorem unit_split {k t u : Int} (h : t * t = k * k * (u * u) + 4) (k0 : 0 < k) : u = 0 ∧ (t = 2 ∨ t = -2) := by
  have u0 : u = 0 := by
    by_cases z : u = 0
    · exact z
    · exfalso
      have e : (k * u) * (k * u) = k * k * (u * u) := by grind
      rw [← e, ← Int.natAbs_mul_self (a := t), ← Int.natAbs_mul_self (a := k * u)] at h
      have hw : 1 ≤ (k * u).natAbs := by
        have : k * u ≠ 0 := Int.mul_ne_zero (by omega) z
        omega
      have h2 : t.natAbs * t.natAbs = (k * u).natAbs * (k * u).natAbs + 4 := by
        have e1 : ((t.natAbs * t.natAbs : Nat) : Int) = (t.natAbs : Int) * (t.natAbs : Int) := Int.natCast_mul _ _
        have e2 : (((k * u).natAbs * (k * u).natAbs : Nat) : Int) = ((k * u).natAbs : Int) * ((k * u).natAbs : Int) := Int.natCast_mul _ _
        omega
      generalize t.natAbs = T at h2
      generalize (k * u).natAbs = W at h2 hw
      have hl : W < T := by
        by_cases z2 : W < T
        · exact z2
        · have := Nat.mul_le_mul (show T ≤ W by omega) (show T ≤ W by omega)
          omega
      obtain ⟨x, rfl⟩ : ∃ x, T = W + 1 + x := ⟨T - W - 1, by omega⟩
      have e3 : (W + 1 + x) * (W + 1 + x) = W * W + 2 * W * (1 + x) + (1 + x) * (1 + x) := by grind
      by_cases x0 : x = 0
      · subst x0
        omega
      · have p1 : 2 * 2 ≤ (1 + x) * (1 + x) := Nat.mul_le_mul (by omega) (by omega)
        have p2 : 2 * 1 * 2 ≤ 2 * W * (1 + x) := Nat.mul_le_mul (by omega) (by omega)
        omega
  subst u0
  refine ⟨rfl, ?_⟩
  have h3 : (t - 2) * (t + 2) = 0 := by grind
  rcases Int.mul_eq_zero.mp h3 with w | w <;> omega
theorem unit_flat {t : Int} (h : t * t = 4) : t = 2 ∨ t = -2 := by
  have h3 : (t - 2) * (t + 2) = 0 := by grind
  rcases Int.mul_eq_zero.mp h3 with w | w <;> omega
/-! ### powers of a self change: by x and u, the matrix (x, -C u; A u, x + B u) -/
def uX (A B C : Int) (v : Int × Int) : Int × Int × Int × Int := (v.1, -C * v.2, A * v.2, v.1 + B * v.2)
def uMul (A B C : Int) (v w : Int × Int) : Int × Int := (v.1 * w.1 - A * C * (v.2 * w.2), v.1 * w.2 + v.2 * w.1 + B * (v.2 * w.2))
def uInv (B : Int) (v : Int × Int) : Int × Int := (v.1 + B * v.2, -v.2)
def uN (A B C : Int) (v : Int × Int) : Int := v.1 * v.1 + B * (v.1 * v.2) + A * C * (v.2 * v.2)
def uT (B : Int) (v : Int × Int) : Int := 2 * v.1 + B * v.2
def mM (m n : Int × Int × Int × Int) : Int × Int × Int × Int := (m.1 * n.1 + m.2.1 * n.2.2.1, m.1 * n.2.1 + m.2.1 * n.2.2.2, m.2.2.1 * n.1 + m.2.2.2 * n.2.2.1, m.2.2.1 * n.2.1 + m.2.2.2 * n.2.2.2)
theorem m4_ext {m n : Int × Int × Int × Int} (h1 : m.1 = n.1) (h2 : m.2.1 = n.2.1) (h3 : m.2.2.1 = n.2.2.1) (h4 : m.2.2.2 = n.2.2.2) : m = n := Prod.ext h1 (Prod.ext h2 (Prod.ext h3 h4))
theorem uX_mul (A B C : Int) (v w : Int × Int) : mM (uX A B C v) (uX A B C w) = uX A B C (uMul A B C v w) := by
  obtain ⟨x, u⟩ := v
  obtain ⟨y, z⟩ := w
  refine m4_ext ?_ ?_ ?_ ?_
  · show x * y + -C * u * (A * z) = x * y - A * C * (u * z)
    grind
  · show x * (-C * z) + -C * u * (y + B * z) = -C * (x * z + u * y + B * (u * z))
    grind
  · show A * u * y + (x + B * u) * (A * z) = A * (x * z + u * y + B * (u * z))
    grind
  · show A * u * (-C * z) + (x + B * u) * (y + B * z) = x * y - A * C * (u * z) + B * (x * z + u * y + B * (u * z))
    grind
theorem uN_mul (A B C : Int) (v w : Int × Int) : uN A B C (uMul A B C v w) = uN A B C v * uN A B C w := by
  obtain ⟨x, u⟩ := v
  obtain ⟨y, z⟩ := w
  unfold uN uMul
  dsimp only
  grind
theorem uN_inv (A B C : Int) (v : Int × Int) : uN A B C (uInv B v) = uN A B C v := by
  obtain ⟨x, u⟩ := v
  unfold uN uInv
  dsimp only
  grind
theorem uX_det (A B C : Int) (v : Int × Int) : (uX A B C v).1 * (uX A B C v).2.2.2 - (uX A B C v).2.1 * (uX A B C v).2.2.1 = uN A B C v := by
  obtain ⟨x, u⟩ := v
  unfold uN uX
  dsimp only
  grind
theorem uX_inv (A B C : Int) (v : Int × Int) : uX A B C (uInv B v) = ((uX A B C v).2.2.2, -(uX A B C v).2.1, -(uX A B C v).2.2.1, (uX A B C v).1) := by
  obtain ⟨x, u⟩ := v
  refine m4_ext ?_ ?_ ?_ ?_
  · rfl
  · show -C * -u = -(-C * u)
    grind
  · show A * -u = -(A * u)
    grind
  · show x + B * u + B * -u = x
    grind
/-- it fixes the form -/
theorem uX_fix {A B C : Int} {v : Int × Int} (h : uN A B C v = 1) (g : Int) : fA (g * A) (g * B) (g * C) (uX A B C v).1 (uX A B C v).2.2.1 = g * A ∧ fB (g * A) (g * B) (g * C) (uX A B C v).1 (uX A B C v).2.1 (uX A B C v).2.2.1 (uX A B C v).2.2.2 = g * B ∧ fA (g * A) (g * B) (g * C) (uX A B C v).2.1 (uX A B C v).2.2.2 = g * C := by
  obtain ⟨x, u⟩ := v
  unfold uN at h
  unfold uX
  dsimp only at *
  refine ⟨?_, ?_, ?_⟩
  · have : fA (g * A) (g * B) (g * C) x (A * u) = g * A * (x * x + B * (x * u) + A * C * (u * u)) := by
      unfold fA
      grind
    rw [this, h, Int.mul_one]
  · have : fB (g * A) (g * B) (g * C) x (-C * u) (A * u) (x + B * u) = g * B * (x * x + B * (x * u) + A * C * (u * u)) := by
      unfold fB
      grind
    rw [this, h, Int.mul_one]
  · have : fA (g * A) (g * B) (g * C) (-C * u) (x + B * u) = g * C * (x * x + B * (x * u) + A * C * (u * u)) := by
      unfold fA
      grind
    rw [this, h, Int.mul_one]
theorem uX_inj {A B C : Int} (h0 : A ≠ 0 ∨ B ≠ 0 ∨ C ≠ 0) {v w : Int × Int} (h : uX A B C v = uX A B C w) : v = w := by
  obtain ⟨x, u⟩ := v
  obtain ⟨y, z⟩ := w
  have h1 : x = y := congrArg (fun m : Int × Int × Int × Int => m.1) h
  have h2 : -C * u = -C * z := congrArg (fun m : Int × Int × Int × Int => m.2.1) h
  have h3 : A * u = A * z := congrArg (fun m : Int × Int × Int × Int => m.2.2.1) h
  have h4 : x + B * u = y + B * z := congrArg (fun m : Int × Int × Int × Int => m.2.2.2) h
  refine Prod.ext h1 ?_
  show u = z
  rcases h0 with h0 | h0 | h0
  · exact Int.eq_of_mul_eq_mul_left h0 h3
  · exact Int.eq_of_mul_eq_mul_left h0 (by omega)
  · exact Int.eq_of_mul_eq_mul_left h0 (by rw [Int.neg_mul, Int.neg_mul] at h2; omega)
/-- the powers -/
def uP (A B C : Int) (v : Int × Int) : Nat → Int × Int
  | 0 => (1, 0)
  | k + 1 => uMul A B C (uP A B C v k) v
theorem uP_one {A B C : Int} {v : Int × Int} (h : uN A B C v = 1) : ∀ k, uN A B C (uP A B C v k) = 1
  | 0 => by
    show (1 : Int) * 1 + B * (1 * 0) + A * C * (0 * 0) = 1
    grind
  | k + 1 => by
    show uN A B C (uMul A B C (uP A B C v k) v) = 1
    rw [uN_mul, uP_one h k, h]
    rfl
theorem uT_mul (A B C : Int) (v w : Int × Int) : 2 * uT B (uMul A B C v w) = uT B v * uT B w + (B * B - 4 * A * C) * (v.2 * w.2) ∧ 2 * (uMul A B C v w).2 = uT B v * w.2 + v.2 * uT B w := by
  obtain ⟨x, u⟩ := v
  obtain ⟨y, z⟩ := w
  unfold uT uMul
  dsimp only
  constructor <;> grind
/-- the powers go up -/
theorem uP_up {A B C : Int} {v : Int × Int} (hd : 0 ≤ dsc A B C) (ht : 2 ≤ uT B v) (hu : 1 ≤ v.2) : ∀ k, 2 ≤ uT B (uP A B C v k) ∧ 0 ≤ (uP A B C v k).2 ∧ (uP A B C v k).2 < (uP A B C v (k + 1)).2
  | 0 => by
    obtain ⟨e1, e2⟩ := uT_mul A B C (1, 0) v
    have t0 : uT B (1, 0) = 2 := by
      unfold uT
      dsimp only
      omega
    refine ⟨by show 2 ≤ uT B (1, 0); omega, by show (0 : Int) ≤ 0; omega, ?_⟩
    show (0 : Int) < (uMul A B C (1, 0) v).2
    rw [t0] at e2
    dsimp only at e2
    omega
  | k + 1 => by
    obtain ⟨h1, h2, h3⟩ := uP_up hd ht hu k
    obtain ⟨e1, _⟩ := uT_mul A B C (uP A B C v k) v
    obtain ⟨_, e4⟩ := uT_mul A B C (uP A B C v (k + 1)) v
    change 2 * uT B (uP A B C v (k + 1)) = _ at e1
    change 2 * (uP A B C v (k + 1 + 1)).2 = _ at e4
    have p1 : 2 * 2 ≤ uT B (uP A B C v k) * uT B v := Int.mul_le_mul h1 ht (by omega) (by omega)
    have p2 : 0 ≤ (B * B - 4 * A * C) * ((uP A B C v k).2 * v.2) := Int.mul_nonneg hd (Int.mul_nonneg h2 (by omega))
    have h4 : 2 ≤ uT B (uP A B C v (k + 1)) := by omega
    have p3 : 2 * 1 ≤ uT B (uP A B C v (k + 1)) * v.2 := Int.mul_le_mul h4 hu (by omega) (by omega)
    have p4 : (uP A B C v (k + 1)).2 * 2 ≤ (uP A B C v (k + 1)).2 * uT B v := Int.mul_le_mul_of_nonneg_left ht (by omega)
    exact ⟨h4, by omega, by omega⟩
theorem uP_lt {A B C : Int} {v : Int × Int} (hd : 0 ≤ dsc A B C) (ht : 2 ≤ uT B v) (hu : 1 ≤ v.2) {i j : Nat} (h : i < j) : (uP A B C v i).2 < (uP A B C v j).2 := by
  induction j with
  | zero => omega
  | succ j ih =>
    have h3 := (uP_up hd ht hu j).2.2
    by_cases z : i = j
    · rw [z]
      exact h3
    · have := ih (by omega)
      omega

/-! ### a dict with int tuples as keys -/
abbrev KnI (P : Program) (w : World) : HeapKind P w (List Int) := tupleKind (intKind P w)
/-- the hash of such a key -/
def hkI (k : List Int) : Int := reduceHash (Builtin.Tuple.tupleHashOf (k.map hashInt))
/-- its entries: the key's tuple, the key, the value -/
abbrev DL := List (Addr × List Int × V)
abbrev DRl : DL → List (List Int × Addr × Value) → Prop := Paired fun p q => q.1 = p.2.1 ∧ q.2.1 = p.1 ∧ RelV p.2.2 q.2.2
structure DicT0 (h : Heap) (a : Addr) (L : DL) : Prop where
  few : L.length ≤ sizeLine
  low : (a == sysModules) = false
  ex : ∃ xs, DRl L xs ∧ ∃ o es ep, h.get? a = some o ∧ o.ExactDict ∧ o.data = .dict es ep ∧ es.toList = xs.map (fun x => ⟨hkI x.1, .ref x.2.1, x.2.2⟩) ∧ (xs.map (·.1)).Nodup
def DicTO (a : Addr) (L : DL) : HO := .ext fun h => DicT0 h a L
theorem dicTO_new {P : Program} {w : World} {H : Hp} {h : Heap} {a : Addr} {L : DL} (R : DicT0 h a L) : ObjOk P w H h a (DicTO a L) := by
  have ⟨xs, r, o, es, ep, ho, q⟩ := R.ex
  refine ⟨R, ⟨o, ho⟩, fun h1 h2 p k => ?_⟩
  obtain ⟨ys, r2, o2, es2, ep2, ho2, q2⟩ := p.ex
  exact ⟨p.few, p.low, ys, r2, o2, es2, ep2, k o2 ho2, q2⟩
theorem DicT0.of {P : Program} {w : World} {h : Heap} {a : Addr} {L : DL} {xs : List (List Int × Addr × Value)} (r : DRl L xs) (z : L.length ≤ sizeLine) (lo : (a == sysModules) = false) (d : h.DictOfH (KnI P w) a xs) : DicT0 h a L := by
  obtain ⟨o, es, ep, h1, h2, h3, h4, _, h5⟩ := d
  exact ⟨z, lo, xs, r, o, es, ep, h1, h2, h3, h4, h5⟩
/-- what stands at a key -/
def lkT (L : DL) (k : List Int) : Option V := (L.find? fun p => decide (p.2.1 = k)).map (·.2.2)
theorem lkT_rel {L : DL} {xs : List (List Int × Addr × Value)} (r : DRl L xs) (k : List Int) : RelO (lkT L k) ((atKey xs k).map (·.2)) := by
  induction r with
  | nil => exact True.intro
  | @cons p q ps qs h t ih =>
    obtain ⟨h1, _, h2⟩ := h
    unfold lkT atKey at ih ⊢
    rw [List.find?_cons, List.find?_cons]
    by_cases e : p.2.1 = k
    · rw [decide_eq_true e, decide_eq_true (h1.trans e)]
      exact h2
    · rw [decide_eq_false e, decide_eq_false fun z => e (h1.symm.trans z)]
      exact ih
theorem drl_mem {L : DL} {xs : List (List Int × Addr × Value)} (r : DRl L xs) : ∀ x ∈ xs, ∃ p ∈ L, x.1 = p.2.1 ∧ x.2.1 = p.1 := by
  induction r with
  | nil =>
    intro x hx
    cases hx
  | @cons p q ps qs h t ih =>
    intro x hx
    rcases List.mem_cons.mp hx with rfl | hx
    · exact ⟨p, List.mem_cons_self, h.1, h.2.1⟩
    · obtain ⟨p2, m, e⟩ := ih x hx
      exact ⟨p2, List.mem_cons_of_mem _ m, e⟩
section
variable {X : Cx}
theorem dicT_get {pins : List (Addr × Obj)} {σ : L2.St} {H : Hp} {s : Shared} {a : Addr} {L : DL} (I : Inv X pins σ H s) (e : H a = some (DicTO a L)) (tk : ∀ p ∈ L, SqT X.K H p.1 (p.2.1.map V.int)) :
    (a == sysModules) = false ∧ L.length ≤ sizeLine ∧ ∃ xs, DRl L xs ∧ s.heap.DictOfH (KnI X.prog X.w) a xs := by
  have R : DicT0 s.heap a L := (I.hok a _ e).1
  obtain ⟨xs, r, o, es, ep, h1, h2, h3, h4, h5⟩ := R.ex
  refine ⟨R.low, R.few, xs, r, o, es, ep, h1, h2, h3, h4, fun x hx => ?_, h5⟩
  obtain ⟨p, m, e1, e2⟩ := drl_mem r x hx
  rw [e1, e2]
  exact I.isT (tk p m)
/-- k in d, k not in d -/
def rDInT (K : PySem.W.Frag) (P : Program) (w : World) (neg : Bool) : V → V → Hp → VK → Prop := fun x y H Q => ∃ (b a : Addr) (k : List Int) (L : DL), x = V.ref b ∧ y = V.ref a ∧ H a = some (DicTO a L) ∧
  (∀ p ∈ L, SqT K H p.1 (p.2.1.map V.int)) ∧ SqT K H b (k.map V.int) ∧ Q (.bl (if neg then !(lkT L k).isSome else (lkT L k).isSome)) H
theorem or_dinT (hu : X.A.units + 1 < cLine) : OpR X (compareOp .In) (rDInT X.K X.prog X.w false) := by
  intro pn s σ H x y v u Q I rx ry h
  obtain ⟨b, a, k, L, rfl, rfl, ea, tk, kb, q⟩ := h
  obtain ⟨lo, _, xs, r, d⟩ := dicT_get I ea tk
  cases rx
  cases ry
  have q2 := (lkT_rel r k).isSome_eq
  rw [Option.isSome_map] at q2
  refine wpAny_in_heap (knd := KnI X.prog X.w) (tupleKind_room_in1 hu) (I.isT kb) lo d ?_
  rw [← q2]
  exact ⟨.bl (lkT L k).isSome, H, I.tok _, rfl, q⟩
theorem or_dnotinT (hu : X.A.units + 1 < cLine) : OpR X (compareOp .NotIn) (rDInT X.K X.prog X.w true) := by
  intro pn s σ H x y v u Q I rx ry h
  obtain ⟨b, a, k, L, rfl, rfl, ea, tk, kb, q⟩ := h
  obtain ⟨lo, _, xs, r, d⟩ := dicT_get I ea tk
  cases rx
  cases ry
  have q2 := (lkT_rel r k).isSome_eq
  rw [Option.isSome_map] at q2
  refine wpAny_notIn_heap (knd := KnI X.prog X.w) (tupleKind_room_in1 hu) (I.isT kb) lo d ?_
  rw [← q2]
  exact ⟨.bl (!(lkT L k).isSome), H, I.tok _, rfl, q⟩
/-- d[k] -/
def tDGetT (K : PySem.W.Frag) (P : Program) (w : World) (td ty : TE) : TE := fun σ H Q => td σ H fun x H1 => ty σ H1 fun y H2 => ∃ (a b : Addr) (k : List Int) (L : DL) (v : V), x = V.ref a ∧ y = V.ref b ∧ H2 a = some (DicTO a L) ∧
  (∀ p ∈ L, SqT K H2 p.1 (p.2.1.map V.int)) ∧ SqT K H2 b (k.map V.int) ∧ lkT L k = some v ∧ Q v H2
variable {o i : Expr} {pos : Pos} {td ty tv : TE}
theorem pe_dgetT (hu : X.A.units + 1 < cLine) (ho : PE X o td) (hi : PE X i ty) (hs : NoSl i) : PE X (.Subscript o i pos) (tDGetT X.K X.prog X.w td ty) := by
  refine ⟨fun pins s σ H Q I h => subD_of PySem.F.slot_dict_getitem.lookup hs (thn (ho.run pins s σ H _ I h) fun u s1 z => ?_)⟩
  obtain ⟨x, H1, I1, rx, q1⟩ := z
  refine thn (hi.run pins s1 σ H1 _ I1 q1) fun iv s2 z => ?_
  obtain ⟨y, H2, I2, ry, a, b, k, L, v, ex, ey, ea, tk, kb, lk, q⟩ := z
  subst ex ey
  cases rx
  cases ry
  obtain ⟨lo, _, xs, r, d⟩ := dicT_get I2 ea tk
  obtain ⟨w', hw, rw'⟩ := RelO.some_of (v := v) (o := (atKey xs k).map (·.2)) (by rw [← lk]; exact lkT_rel r k)
  have ⟨p, hp, hp2⟩ := Option.map_eq_some_iff.mp hw
  refine ⟨d.typeIs, wpAny_getItem_heap (knd := KnI X.prog X.w) (tupleKind_room_in1 hu) (I2.isT kb) d hp ?_⟩
  rw [hp2]
  exact ⟨v, H2, I2.tok _, rw', q⟩
/-- {k: v}: the new dict stands empty while the pair is made -/
def tDisp1 (K : PySem.W.Frag) (P : Program) (w : World) (tk tv : TE) : TE := fun σ H Q => ∀ p, H p = none → tk σ (upd H p (DicTO p [])) fun x H1 => tv σ H1 fun y H2 => H2 p = some (DicTO p []) ∧
  ∃ (b : Addr) (k : List Int), x = V.ref b ∧ SqT K H2 b (k.map V.int) ∧ Q (.ref p) (upd H2 p (DicTO p [(b, k, y)]))
theorem dicT_empty (h : Heap) (hb : sysModules < h.objs.size) : DicT0 (h.push { cls := .type "dict", data := .dict #[] }) h.objs.size [] :=
  ⟨Nat.zero_le _, beq_eq_false_iff_ne.mpr (Ne.symm (Nat.ne_of_lt hb)), [], .nil, { cls := .type "dict", data := .dict #[] }, #[], 0, Heap.get?_push_size _ rfl, ⟨rfl, rfl, rfl⟩, rfl, rfl, List.nodup_nil⟩
theorem pe_disp1 {ke ve : Expr} (hu : X.A.units + 1 < cLine) (hk : PE X ke td) (hv : PE X ve tv) : PE X (.Dict [some ke] [ve] pos) (tDisp1 X.K X.prog X.w td tv) := by
  refine ⟨fun pins s σ H Q I q => (?_)⟩
  have hn := (I.hok.fresh (Nat.le_refl s.heap.objs.size))
  have E0 := dicT_empty s.heap I.big
  have I1 := I.laid (a := s.heap.objs.size) (t' := s.toks) (fun _ _ q => Heap.get?_push_of_some _ q) (Nat.le_refl _) (dicTO_new (H := upd H s.heap.objs.size (DicTO s.heap.objs.size [])) E0)
  have q := q _ hn
  have sh := zip_pairTrees [some ke] [ve] X.env pos rfl rfl
  rw [arm_eval_Dict, sh, dictDisplay_pairs (pairTrees [some ke] [ve] X.env pos) (by intro z; cases z) (by show 1 < 17; decide)]
  refine wpAny_bind (wpAny_standAt (wpAny_bind (wpAny_subDictH (knd := KnI X.prog X.w) (Q := fun d s' => wpAny (model X.prog X.w) X.A (pure (Value.ref d)) (EP X pins σ Q) X.xe s') (by show X.A.units < cLine; omega) (by show 1 ≤ 15; decide) ?_)))
  refine pairTrees_cons_walk (thn (hk.run pins _ σ _ _ I1 q) fun u s1 z => ?_)
  obtain ⟨x, H1, I2, rx, q1⟩ := z
  refine thn (hv.run pins s1 σ H1 _ I2 q1) fun u2 s2 z => ?_
  obtain ⟨y, H2, I3, ry, e, b, k, ex, kb, q2⟩ := z
  subst ex
  cases rx
  refine pairTrees_nil_walk ⟨[(k, b, u2)], ⟨rfl, rfl, I3.isT kb, True.intro⟩, ?_, fun h' tk' d' sb => wpAny_pure ⟨.ref s.heap.objs.size, _, ?_, rfl, q2⟩⟩
  · obtain ⟨_, _, xs, r, d⟩ := dicT_get I3 e (fun p hp => by cases hp)
    cases r
    exact d
  · obtain ⟨lo, _, _⟩ := dicT_get I3 e (fun p hp => by cases hp)
    have T : DicT0 h' s.heap.objs.size [(b, k, y)] := DicT0.of (xs := [(k, b, u2)]) (.cons ⟨rfl, rfl, ry⟩ .nil) (by show 1 ≤ sizeLine; rw [sizeLine_eq]; decide) lo d'
    obtain ⟨o, es, ep, ho, _⟩ := d'
    exact d_write I3 (by rw [e]; exact True.intro) sb ⟨o, ho⟩ (dicTO_new T)
end

/-- d[k] = v by a comprehension, k a new key -/
theorem dicT_set {X : Cx} {pn : List (Addr × Obj)} {σ : L2.St} {H : Hp} {s : Shared} {E : Value → Shared → Prop} {D b : Addr} {L : DL} {k : List Int} {v : V} {r : Value} {Q : Unit → Shared → Prop} (I : Inv X pn σ H s) (hu : X.A.units + 1 < cLine) (e : H D = some (DicTO D L))
    (tk : ∀ p ∈ L, SqT X.K H p.1 (p.2.1.map V.int)) (kb : SqT X.K H b (k.map V.int)) (hz : L.length < sizeLine) (new : lkT L k = none) (rv : RelV v r) (h : ∀ s', Inv X pn σ (upd H D (DicTO D (L ++ [(b, k, v)]))) s' → Q () s') :
    wpAny (model X.prog X.w) X.A (dictSet D (.ref b) r) Q E s := by
  obtain ⟨lo, _, xs, rl, d⟩ := dicT_get I e tk
  have hl : xs.length ≤ sizeLine := by rw [← Paired.length rl]; omega
  have no : atKey xs k = none := by
    have q2 := (lkT_rel rl k).isSome_eq
    rw [Option.isSome_map, new] at q2
    cases z : atKey xs k with
    | none => rfl
    | some p =>
      rw [z] at q2
      cases q2
  refine wpAny_dictSet_heap (knd := KnI X.prog X.w) (hsz := hl) (by show X.A.units < cLine; omega) (I.isT kb) d fun h' d' sb => h _ ?_
  rw [storedH_new no] at d'
  have T : DicT0 h' D (L ++ [(b, k, v)]) := DicT0.of (Paired.snoc rl ⟨rfl, rfl, rv⟩) (by rw [List.length_append]; exact hz) lo d'
  obtain ⟨o, es, ep, ho, _⟩ := d'
  exact d_write I (by rw [e]; exact True.intro) sb ⟨o, ho⟩ (dicTO_new T)
/-- {k: v for target in iter if ..}, the keys unlike: D the new dict -/
def tDcT (K : PySem.W.Frag) (P : Program) (w : World) (wi : TI) (g : TG) (tt : TT) (tk tv : TE) (vs : List Nat) : TE := fun σ H Q => wi σ H fun J H1 => ∀ D, H1 D = none → ∃ W : Nat → Nat → Hp → Prop, (∃ m, W 0 m (upd H1 D (DicTO D []))) ∧ ∀ i m H, W i m H →
  (J.stop i H ∧ Q (.ref D) H) ∨ (J.go i H ∧ ∃ Nx : Hp → Prop, (∀ H', Nx H' → ∃ m', m' < m ∧ W (i + 1) m' H') ∧ ∀ x H', J.yld i H x H' → g x (wipe σ vs) H' fun σ2 H2 => wipe σ2 vs = wipe σ vs ∧ tt σ2 H2 fun c H3 =>
    if c = true then tk σ2 H3 fun y H4 => tv σ2 H4 fun z H5 => ∃ (L : DL) (b : Addr) (k : List Int), y = V.ref b ∧ H5 D = some (DicTO D L) ∧ (∀ p ∈ L, SqT K H5 p.1 (p.2.1.map V.int)) ∧ SqT K H5 b (k.map V.int) ∧ L.length < sizeLine ∧ lkT L k = none ∧
      Nx (upd H5 D (DicTO D (L ++ [(b, k, z)]))) else Nx H3)
section
variable {X : Cx}
theorem dcT_core (hu : X.A.units + 1 < cLine) {pn : List (Addr × Obj)} {s : Shared} {σ : L2.St} {H : Hp} {Q : VK} {kx vx tg iter : Expr} {ifs : List Expr} {sc : Scope} {ow : List (Str × Nat)} {pos pos' : Pos} {wi : TI} {g : TG} {tt : TT} {tk tv : TE} {use : Option (Value → Sem Unit)} {Qf : Value → Shared → Prop}
    (hc : X.calm = true) (hN : X.N.Nodup) (I : Inv X pn σ H s) (hi : PI X tg iter wi) (ok : BlkOk X.N X.env.scope sc ow)
    (hg : ∀ (s : Shared) (H : Hp) (C : Addr) (cl : List (Str × Addr)) (fo : List Addr), PG (X.blk s H sc (compEnvC sc cl C X.env) fo) tg g) (ht : ∀ (s : Shared) (H : Hp) (C : Addr) (cl : List (Str × Addr)) (fo : List Addr), PTs (X.blk s H sc (compEnvC sc cl C X.env) fo) ifs tt)
    (hk : ∀ (s : Shared) (H : Hp) (C : Addr) (cl : List (Str × Addr)) (fo : List Addr), PE (X.blk s H sc (compEnvC sc cl C X.env) fo) kx tk)
    (he : ∀ (s : Shared) (H : Hp) (C : Addr) (cl : List (Str × Addr)) (fo : List Addr), PE (X.blk s H sc (compEnvC sc cl C X.env) fo) vx tv) (hs : ∀ x, foldedSetIterable iter X.env x = pure x)
    (h : tDcT X.K X.prog X.w wi g tt tk tv (ow.map (·.2)) σ H Q)
    (hRR : ∀ D C s' m H', Inv X pn σ H' s' → Q (.ref D) H' → s'.heap.Ns C m → FpOk X pn H' C → compPost (model X.prog X.w) X.A X.xe use Qf (.ref D) C (.ok .next) s') :
    wpAny (model X.prog X.w) X.A (comprehension (.DictComp kx vx [⟨tg, iter, ifs, 0⟩] sc pos) sc X.env pos' newDict false (eval iter X.env) use) Qf X.xe s := by
  have hfree : ∀ y ∈ sc.names, y.2 = .free → ∃ c, X.env.cells.lookup y.1 = some c := fun y hy e => by
    rcases (ok.free y hy e) with k | k
    · exact I.ok.has _ (.inl k)
    · exact I.ok.has _ (.inr k)
  refine wpAny_comprehension_free (use := use) rfl hs (closure_ok hfree) ok.kind (fun z hz e => by rw [ok.uniq z hz, e])
    (thn (hi.run pn s σ H _ I h) fun xv y1 hx => thn hx fun itv y2 h2 => ?_)
  obtain ⟨it, fo, tr, J, G2, e, J2, T, at2, f2, q⟩ := h2
  subst e
  refine (wpAny_newObj_type (newEnv_comp ?_))
  generalize hD : y2.heap.objs.size = D
  have hDn : G2 D = none := J2.hok.fresh (Nat.le_of_eq hD)
  have ⟨W, ⟨m0, w0⟩, turn⟩ := q D hDn
  generalize hs3 : ({ y2 with heap := y2.heap.push { cls := .type "dict", data := .dict #[] } } : Shared) = y3
  have J3 : Inv X pn σ (upd G2 D (DicTO D [])) y3 := by
    rw [← hs3]
    refine J2.laid (t' := y2.toks) (fun b o e => Heap.get?_push_of_some _ e) (Nat.le_of_eq hD) ?_
    rw [← hD]
    exact dicTO_new (dicT_empty y2.heap J2.big)
  have h3 : y3.heap = y2.heap.push { cls := .type "dict", data := .dict #[] } := by rw [← hs3]
  have sz : ∀ b ∈ fo, b < y2.heap.objs.size := fun b hb => by
    obtain ⟨o, e, _⟩ := T.obj _ _ at2 b hb
    exact Heap.lt_size e
  have f3 : ∀ b ∈ fo, FpOk X pn (upd G2 D (DicTO D [])) b ∧ b < y3.heap.objs.size := fun b hb => by
    have bl := sz b hb
    refine ⟨⟨?_, (f2 b hb).2⟩, by rw [h3, Heap.size_push]; exact Nat.lt_succ_of_lt bl⟩
    rw [upd_ne (by rw [← hD]; exact Nat.ne_of_lt bl)]
    exact (f2 b hb).1
  have at3 : tr 0 y3.heap := T.keep _ _ _ at2 fun b _ o e => by rw [h3]; exact Heap.get?_push_of_some _ e
  have J4 := block_start J3 ok hN f3
  have pg := hg y3 (upd G2 D (DicTO D [])) y3.heap.objs.size (cellsFrom (y3.heap.objs.size + 1) sc.names (cloFrom X.env.cells sc.names [])) fo
  have pt := ht y3 (upd G2 D (DicTO D [])) y3.heap.objs.size (cellsFrom (y3.heap.objs.size + 1) sc.names (cloFrom X.env.cells sc.names [])) fo
  have pk := hk y3 (upd G2 D (DicTO D [])) y3.heap.objs.size (cellsFrom (y3.heap.objs.size + 1) sc.names (cloFrom X.env.cells sc.names [])) fo
  have pe := he y3 (upd G2 D (DicTO D [])) y3.heap.objs.size (cellsFrom (y3.heap.objs.size + 1) sc.names (cloFrom X.env.cells sc.names [])) fo
  show codeAny _ _ (.compStart (.DictComp kx vx [⟨tg, iter, ifs, 0⟩] sc pos) 0 (.ref it) (.ref D) (compEnvC sc (cellsFrom (y3.heap.objs.size + 1) sc.names (cloFrom X.env.cells sc.names [])) y3.heap.objs.size X.env)) (compPost (model X.prog X.w) X.A X.xe use Qf (.ref D) y3.heap.objs.size) { y3 with heap := pushCells (y3.heap.push { cls := .type "dict", data := .dict #[] }) sc.names }
  have nfp : ∀ b ∈ fo, (upd G2 D (DicTO D [])) b = none := fun b hb => (f3 b hb).1.1
  generalize hce : compEnvC sc (cellsFrom (y3.heap.objs.size + 1) sc.names (cloFrom X.env.cells sc.names [])) y3.heap.objs.size X.env = en at J4 pg pt pk pe ⊢
  have cL : en.locals = y3.heap.objs.size := by subst hce; rfl
  generalize hH3 : upd G2 D (DicTO D []) = G3 at J3 J4 pg pt pk pe w0 nfp f3
  generalize hs4 : ({ y3 with heap := pushCells (y3.heap.push { cls := .type "dict", data := .dict #[] }) sc.names } : Shared) = y4 at J4 ⊢
  have at4 : tr 0 y4.heap := T.keep _ _ _ at3 fun b _ o e => by rw [← hs4]; exact pushCells_keeps _ _ _ _ (Heap.get?_push_of_some _ e)
  have stat : ∀ {σ' : L2.St} {H' : Hp} {s' : Shared}, Inv (X.blk y3 G3 sc en fo) [] σ' H' s' → (∀ b ∈ fo, H' b = none) → ∀ b ∈ fo, FpOk (X.blk y3 G3 sc en fo) [] H' b := fun {σ' H' s'} I' hn b hb =>
    ⟨(hn b hb), (I'.ok.exf b hb).1, I'.ok.exfs b hb, .inl hb, fun x c e => (I'.ok.exf b hb).2 x c e, fun p hp => absurd (show p ∈ ([] : List (Addr × Obj)) ++ [] from hp) (by simp)⟩
  have loop : codeAny (model X.prog X.w) X.A (.compLoop (.DictComp kx vx [⟨tg, iter, ifs, 0⟩] sc pos) 0 (.ref it) (.ref D) en) (compPost (model X.prog X.w) X.A X.xe use Qf (.ref D) y3.heap.objs.size) y4 := by
    refine compLoop_anyD (fun n s' => ∃ i H', Inv (X.blk y3 G3 sc en fo) [] (wipe σ (ow.map (·.2))) H' s' ∧ tr i s'.heap ∧ (∀ b ∈ fo, H' b = none) ∧ W i n H') ?_ m0 ⟨0, G3, J4, at4, nfp, w0⟩
    rintro n y5 ⟨i, G5, J5, at5, n5, w5⟩
    rcases turn i n G5 w5 with ⟨stop, qq⟩ | ⟨go, Nx, hNx, step⟩
    · have td := T.done (X.blk y3 G3 sc en fo) rfl rfl rfl hc i [] y5 _ G5 (fun _ _ => False) J5 (stat J5 n5) at5 stop
      refine thnF td fun r y6 ⟨hr, J6⟩ => ?_
      subst hr
      have J7 : Inv X pn σ G5 y6 := J3.call' (ch := fo) J6.os J6.base J6.hok J6.bare fun b hb => ⟨(f3 b hb).1.2.2.2.1, (f3 b hb).1.2.1, (f3 b hb).1.2.2.2.2.1, (f3 b hb).1.2.2.2.2.2⟩
      have nC : G5 y3.heap.objs.size = none := by
        have z : G5 en.locals = none := J6.free
        rw [cL] at z
        exact z
      obtain ⟨m, hn, _⟩ := J6.loc
      have hn : y6.heap.Ns en.locals m := hn
      rw [cL] at hn
      exact hRR D y3.heap.objs.size y6 m G5 J7 qq hn (J3.fpOk (Nat.le_refl _) nC)
    · have ti := T.item (X.blk y3 G3 sc en fo) rfl rfl rfl hc i [] y5 _ G5 (fun _ _ => False) J5 (stat J5 n5) at5 go
      refine thnF ti fun r y6 ⟨u, hr, h6⟩ => ?_
      subst hr
      refine thnF h6 fun _ y7 ⟨x, G7, J7, r7, yl7, at7, n7⟩ => ?_
      have J7' := J7.pinned (stat J7 n7) (T.obj _ _ at7)
      refine thnF (pg.run _ y7 _ G7 x u _ J7' r7 (step x G7 yl7)) fun _ y8 ⟨σ8, G8, J8, hw8, q8⟩ => ?_
      refine thnF (pt.run _ y8 σ8 G8 _ J8 q8) fun b y9 ⟨G9, J9, q9⟩ => ?_
      have fin : ∀ {s' : Shared} {H' : Hp}, Inv (X.blk y3 G3 sc en fo) ([] ++ pinsAt fo y7.heap) σ8 H' s' → Nx H' → ∃ m, m < n ∧ ∃ i H', Inv (X.blk y3 G3 sc en fo) [] (wipe σ (ow.map (·.2))) H' s' ∧ tr i s'.heap ∧ (∀ b ∈ fo, H' b = none) ∧ W i m H' := fun {s' H'} I' nx => by
        have ⟨m', hm, w'⟩ := hNx H' nx
        have pin' : ∀ b ∈ fo, ∀ o, y7.heap.get? b = some o → s'.heap.get? b = some o ∧ H' b = none := fun b hb o e =>
          have z := I'.pin (b, o) (List.mem_append_right _ (List.mem_append_right _ (mem_pinsAt hb e)))
          ⟨z.1, z.2.1⟩
        have hl : (wipe σ (ow.map (·.2))).length = σ8.length := by rw [← hw8, wipe_length]
        refine ⟨m', hm, i + 1, H', (I'.unpinned (pins := [])).weak hl (fun j v e => ?_), T.keep _ _ _ at7 fun b hb o e => (pin' b hb o e).1, fun b hb => ?_, w'⟩
        · rw [← hw8] at e
          exact (wipe_some e).1
        · obtain ⟨o, e, _⟩ := T.obj _ _ at7 b hb
          exact (pin' b hb o e).2
      cases b with
      | false =>
        simp only [if_false, Bool.false_eq_true] at q9 ⊢
        exact fin J9 q9
      | true =>
        simp only [if_true] at q9 ⊢
        refine thnF (pk.run _ y9 σ8 G9 _ J9 q9) fun z y10 ⟨yk, G10, J10, r10, q10⟩ => ?_
        refine thnF (pe.run _ y10 σ8 G10 _ J10 q10) fun z2 y11 ⟨yv, G11, J11, r11, L, kb, k, ek, hD11, htk, hkb, hz11, hnew, nx⟩ => ?_
        subst ek
        cases r10
        exact dicT_set (X := X.blk y3 G3 sc en fo) J11 hu hD11 htk hkb hz11 hnew r11 fun y12 J12 => fin J12 nx
  exact codeAny_compStart_dict loop (T.self X.A 0 _ _ _ at4 loop)
theorem pe_dcT (hu : X.A.units + 1 < cLine) {kx vx tg iter : Expr} {ifs : List Expr} {sc : Scope} {ow : List (Str × Nat)} {pos : Pos} {wi : TI} {g : TG} {tt : TT} {tk tv : TE} (hc : X.calm = true) (hN : X.N.Nodup) (hi : PI X tg iter wi) (ok : BlkOk X.N X.env.scope sc ow)
    (hg : ∀ (s : Shared) (H : Hp) (C : Addr) (cl : List (Str × Addr)) (fp : List Addr), PG (X.blk s H sc (compEnvC sc cl C X.env) fp) tg g) (ht : ∀ (s : Shared) (H : Hp) (C : Addr) (cl : List (Str × Addr)) (fp : List Addr), PTs (X.blk s H sc (compEnvC sc cl C X.env) fp) ifs tt)
    (hk : ∀ (s : Shared) (H : Hp) (C : Addr) (cl : List (Str × Addr)) (fp : List Addr), PE (X.blk s H sc (compEnvC sc cl C X.env) fp) kx tk)
    (he : ∀ (s : Shared) (H : Hp) (C : Addr) (cl : List (Str × Addr)) (fp : List Addr), PE (X.blk s H sc (compEnvC sc cl C X.env) fp) vx tv) (hs : ∀ x, foldedSetIterable iter X.env x = pure x := by intro _; rfl) :
    PE X (.DictComp kx vx [⟨tg, iter, ifs, 0⟩] sc pos) (tDcT X.K X.prog X.w wi g tt tk tv (ow.map (·.2))) := by
  refine ⟨fun pn s σ H Q I h => ?_⟩
  rw [arm_eval_DictComp]; refine dcT_core hu hc hN I hi ok hg ht hk he hs h fun D C s' m H' I' q hn f => ⟨m, hn, fun h'' sb => ?_⟩
  obtain ⟨g0, g1, g2, g3, g4, g5⟩ := f
  exact ⟨.ref D, H', I'.turned (t' := s'.toks) (fun b o hb e => (sb.2 b hb).trans e) g0 g1 g3 g4 g5, rfl, q⟩
theorem pe_dcTQ (K : PySem.W.Frag) (P : Program) (w : World) (hu : X.A.units + 1 < cLine) {kx vx tg iter : Expr} {ifs : List Expr} {sc : Scope} {ow : List (Str × Nat)} {pos : Pos} {wi : TI} {g : TG} {tt : TT} {tk tv : TE} (hc : X.calm = true) (hN : X.N.Nodup) (hi : PI X tg iter wi) (ok : BlkOk X.N X.env.scope sc ow)
    (hg : ∀ (s : Shared) (H : Hp) (C : Addr) (cl : List (Str × Addr)) (fp : List Addr), PG (X.blk s H sc (compEnvC sc cl C X.env) fp) tg g) (ht : ∀ (s : Shared) (H : Hp) (C : Addr) (cl : List (Str × Addr)) (fp : List Addr), PTs (X.blk s H sc (compEnvC sc cl C X.env) fp) ifs tt)
    (hk : ∀ (s : Shared) (H : Hp) (C : Addr) (cl : List (Str × Addr)) (fp : List Addr), PE (X.blk s H sc (compEnvC sc cl C X.env) fp) kx tk)
    (he : ∀ (s : Shared) (H : Hp) (C : Addr) (cl : List (Str × Addr)) (fp : List Addr), PE (X.blk s H sc (compEnvC sc cl C X.env) fp) vx tv) (hs : ∀ x, foldedSetIterable iter X.env x = pure x := by intro _; rfl)
    (h0 : X.K = K := by rfl) (h1 : X.prog = P := by rfl) (h2 : X.w = w := by rfl) : PE X (.DictComp kx vx [⟨tg, iter, ifs, 0⟩] sc pos) (tDcT K P w wi g tt tk tv (ow.map (·.2))) := by
  subst h0 h1 h2
  exact pe_dcT hu hc hN hi ok hg ht hk he hs
end
/-- what a dict holds: keys and values, both tuples of ints -/
abbrev DLs (K : PySem.W.Frag) (H : Hp) : DL → List (List Int × List Int) → Prop := Paired fun p e => p.2.1 = e.1 ∧ SqT K H p.1 (e.1.map V.int) ∧ ∃ c, p.2.2 = V.ref c ∧ SqT K H c (e.2.map V.int)
theorem DLs.same {K : PySem.W.Frag} {H H' : Hp} {L : DL} {es : List (List Int × List Int)} (h : DLs K H L es) (s : Same H H') : DLs K H' L es := by
  unfold DLs at h ⊢
  induction h with
  | nil => exact .nil
  | cons hp _ ih =>
    obtain ⟨h1, h2, c, h3, h4⟩ := hp
    exact .cons ⟨h1, same_seqT s h2, c, h3, same_seqT s h4⟩ ih
theorem DLs.kt {K : PySem.W.Frag} {H H' : Hp} {L : DL} {es : List (List Int × List Int)} (h : DLs K H L es) (s : KT K H H') : DLs K H' L es := by
  unfold DLs at h ⊢
  induction h with
  | nil => exact .nil
  | cons hp _ ih =>
    obtain ⟨h1, h2, c, h3, h4⟩ := hp
    exact .cons ⟨h1, s _ _ h2, c, h3, s _ _ h4⟩ ih
theorem kt_dict {K : PySem.W.Frag} {H : Hp} {a : Addr} {L : DL} {o : HO} (e : H a = some (DicTO a L)) : KT K H (upd H a o) := fun c zs h => by
  rcases h with (h | ⟨o', h⟩) | h
  · exact .inl (.inl (by rw [upd_ne (ne_of h e (by intro z; cases z))]; exact h))
  · exact .inl (.inr ⟨o', by rw [upd_ne (ne_of h e (by intro z; cases z))]; exact h⟩)
  · exact .inr h
theorem DLs.keys {K : PySem.W.Frag} {H : Hp} {L : DL} {es : List (List Int × List Int)} (h : DLs K H L es) : ∀ p ∈ L, SqT K H p.1 (p.2.1.map V.int) := by
  unfold DLs at h
  induction h with
  | nil =>
    intro p hp
    cases hp
  | @cons a b as bs hp _ ih =>
    intro p m
    rcases List.mem_cons.mp m with rfl | m
    · rw [hp.1]
      exact hp.2.1
    · exact ih p m
def lkE (es : List (List Int × List Int)) (k : List Int) : Option (List Int) := (es.find? fun e => decide (e.1 = k)).map (·.2)
theorem DLs.at {K : PySem.W.Frag} {H : Hp} {L : DL} {es : List (List Int × List Int)} (h : DLs K H L es) (k : List Int) : (lkE es k = none ∧ lkT L k = none) ∨ ∃ m c, lkE es k = some m ∧ lkT L k = some (V.ref c) ∧ SqT K H c (m.map V.int) := by
  unfold DLs at h
  unfold lkE lkT
  induction h with
  | nil => exact .inl ⟨rfl, rfl⟩
  | @cons p e ps es' hp _ ih =>
    obtain ⟨h1, h2, c, h3, h4⟩ := hp
    rw [List.find?_cons, List.find?_cons]
    by_cases z : e.1 = k
    · rw [decide_eq_true z, decide_eq_true (h1.trans z)]
      exact .inr ⟨e.2, c, rfl, congrArg some h3, h4⟩
    · rw [decide_eq_false z, decide_eq_false fun y => z (h1.symm.trans y)]
      exact ih
theorem DLs.len {K : PySem.W.Frag} {H : Hp} {L : DL} {es : List (List Int × List Int)} (h : DLs K H L es) : L.length = es.length := Paired.length h
section
variable {X : Cx} {P : Program} {w : World} {o i ke ve : Expr} {pos : Pos} {td ty tv : TE}
theorem inDTQ (K : PySem.W.Frag) (P : Program) (w : World) (hu : X.A.units + 1 < cLine) (h0 : X.K = K := by rfl) (h1 : X.prog = P := by rfl) (h2 : X.w = w := by rfl) : OpR X (compareOp .In) (rDInT K P w false) := by
  subst h0 h1 h2
  exact or_dinT hu
theorem notInDTQ (K : PySem.W.Frag) (P : Program) (w : World) (hu : X.A.units + 1 < cLine) (h0 : X.K = K := by rfl) (h1 : X.prog = P := by rfl) (h2 : X.w = w := by rfl) : OpR X (compareOp .NotIn) (rDInT K P w true) := by
  subst h0 h1 h2
  exact or_dnotinT hu
theorem pe_dgetTQ (K : PySem.W.Frag) (P : Program) (w : World) (hu : X.A.units + 1 < cLine) (ho : PE X o td) (hi : PE X i ty) (hs : NoSl i) (h0 : X.K = K := by rfl) (h1 : X.prog = P := by rfl) (h2 : X.w = w := by rfl) : PE X (.Subscript o i pos) (tDGetT K P w td ty) := by
  subst h0 h1 h2
  exact pe_dgetT hu ho hi hs
theorem pe_disp1Q (K : PySem.W.Frag) (P : Program) (w : World) (hu : X.A.units + 1 < cLine) (hk : PE X ke td) (hv : PE X ve tv) (h0 : X.K = K := by rfl) (h1 : X.prog = P := by rfl) (h2 : X.w = w := by rfl) : PE X (.Dict [some ke] [ve] pos) (tDisp1 K P w td tv) := by
  subst h0 h1 h2
  exact pe_disp1 hu hk hv
end
namespace R
section
variable {K : PySem.W.Frag} {P : Program} {w : World} {σ : L2.St} {H : Hp} {Q : VK} {td ty tk tv : TE}
theorem notInDT {a b : Addr} {k : List Int} {L : DL} {es : List (List Int × List Int)} (ea : H a = some (DicTO a L)) (d : DLs K H L es) (kb : SqT K H b (k.map V.int)) (q : Q (.bl (!(lkE es k).isSome)) H) : rDInT K P w true (.ref b) (.ref a) H Q := by
  refine ⟨b, a, k, L, rfl, rfl, ea, d.keys, kb, ?_⟩
  rcases d.at k with ⟨e1, e2⟩ | ⟨m, c, e1, e2, _⟩
  · rw [if_pos rfl, e2]
    rw [e1] at q
    exact q
  · rw [if_pos rfl, e2]
    rw [e1] at q
    exact q
theorem dgetTE (h : td σ H fun x H1 => ty σ H1 fun y H2 => ∃ (a b : Addr) (k : List Int) (L : DL) (v : V), x = V.ref a ∧ y = V.ref b ∧ H2 a = some (DicTO a L) ∧ (∀ p ∈ L, SqT K H2 p.1 (p.2.1.map V.int)) ∧ SqT K H2 b (k.map V.int) ∧ lkT L k = some v ∧ Q v H2) : tDGetT K P w td ty σ H Q := h
theorem dgetT {C : V → Prop} {a b : Addr} {k m : List Int} {L : DL} {es : List (List Int × List Int)} (ea : H a = some (DicTO a L)) (d : DLs K H L es) (kb : SqT K H b (k.map V.int)) (e : lkE es k = some m) (q : ∀ c, SqT K H c (m.map V.int) → C (V.ref c)) :
    ∃ (a' b' : Addr) (k : List Int) (L : DL) (v : V), V.ref a = V.ref a' ∧ V.ref b = V.ref b' ∧ H a' = some (DicTO a' L) ∧ (∀ p ∈ L, SqT K H p.1 (p.2.1.map V.int)) ∧ SqT K H b' (k.map V.int) ∧ lkT L k = some v ∧ C v := by
  rcases d.at k with ⟨e1, _⟩ | ⟨m2, c, e1, e2, e3⟩
  · rw [e1] at e
    cases e
  · rw [e1] at e
    cases e
    exact ⟨a, b, k, L, V.ref c, rfl, rfl, ea, d.keys, kb, e2, q c e3⟩
theorem disp1 (h : ∀ p H1, Same H H1 → H p = none → H1 p = some (DicTO p []) → tk σ H1 fun x H2 => tv σ H2 fun y H3 => H3 p = some (DicTO p []) ∧ ∃ (b : Addr) (k : List Int), x = V.ref b ∧ SqT K H3 b (k.map V.int) ∧ Q (.ref p) (upd H3 p (DicTO p [(b, k, y)]))) : tDisp1 K P w tk tv σ H Q :=
  fun p n => h p _ (same_upd n) n upd_same
def DcJ (K : PySem.W.Frag) (P : Program) (w : World) (J : It) (g : TG) (tt : TT) (tk tv : TE) (vs : List Nat) (σ : L2.St) (H1 : Hp) (Q : VK) : Prop := tDcT K P w (fun _ Hs R => R J Hs) g tt tk tv vs σ H1 Q
theorem dcE {wi : TI} {g : TG} {tt : TT} {vs : List Nat} (h : wi σ H fun J H1 => DcJ K P w J g tt tk tv vs σ H1 Q) : tDcT K P w wi g tt tk tv vs σ H Q := h
/-- {k: v for x in list}: keys unlike -/
theorem dcL {g : TG} {vs : List Nat} {a : Addr} {xs : List V} (es : Nat → List Int × List Int) (hl : xs.length ≤ 100000) (hT : SqL K H a xs) (nd : ∀ i j, i < j → j < xs.length → (es i).1 ≠ (es j).1)
    (hs : ∀ (i : Nat) (x : V) (H' : Hp) (C : V → V → Hp → Prop), xs[i]? = some x → Same H H' → (∀ b c H2, Same H' H2 → SqT K H2 b ((es i).1.map V.int) → SqT K H2 c ((es i).2.map V.int) → C (.ref b) (.ref c) H2) →
      g x (wipe σ vs) H' fun σ2 H2 => wipe σ2 vs = wipe σ vs ∧ tk σ2 H2 fun y H4 => tv σ2 H4 fun z H5 => C y z H5)
    (hq : ∀ H' D L, H' D = some (DicTO D L) → DLs K H' L ((List.range xs.length).map es) → Same H H' → H D = none → Q (.ref D) H') :
    DcJ K P w (Itl K a) g tYes tk tv vs σ H Q := by
  intro D nD
  let Pv : Nat → Hp → Prop := fun i H' => ∃ L, H' D = some (DicTO D L) ∧ DLs K H' L ((List.range i).map es) ∧ Same H H'
  refine ⟨fun i m H' => m = xs.length - i ∧ i ≤ xs.length ∧ Pv i H', ⟨xs.length, by omega, Nat.zero_le _, [], upd_same, .nil, same_upd nD⟩, ?_⟩
  rintro i m H1 ⟨rfl, hi, L, h1, h2, h3⟩
  have hT1 := h3.seq hT
  by_cases z : i < xs.length
  · have hx : xs[i]? = some (xs[i]) := List.getElem?_eq_getElem z
    refine .inr ⟨⟨xs, xs[i], hT1, hx⟩, Pv (i + 1), fun H' p' => ⟨xs.length - (i + 1), by omega, rfl, z, p'⟩, fun x H' y => ?_⟩
    obtain ⟨e, y⟩ := y
    subst e
    refine hs i x _ _ (y xs hT1) h3 fun b c H2 s2 kb kc => ⟨L, b, (es i).1, rfl, s2 _ _ h1, (h2.same s2).keys, kb, ?_, ?_, ?_⟩
    · have := h2.len
      rw [List.length_map, List.length_range] at this
      rw [this]
      have : (100000 : Nat) < sizeLine := by rw [sizeLine_eq]; decide
      omega
    · rcases h2.at (es i).1 with ⟨_, e2⟩ | ⟨m2, c2, e1, _⟩
      · exact e2
      · exfalso
        unfold lkE at e1
        obtain ⟨e, he, _⟩ := Option.map_eq_some_iff.mp e1
        have m3 := List.mem_of_find?_eq_some he
        obtain ⟨j, hj, rfl⟩ := List.mem_map.mp m3
        have h4 := List.find?_some he
        exact nd j i (List.mem_range.mp hj) z (by simpa using h4)
    · refine ⟨L ++ [(b, (es i).1, V.ref c)], upd_same, ?_, same_mut (h3.trans s2) nD⟩
      have kt : KT K H2 (upd H2 D (DicTO D (L ++ [(b, (es i).1, V.ref c)]))) := kt_dict (s2 _ _ h1)
      rw [List.range_succ, List.map_append]
      exact Paired.snoc (DLs.kt (h2.same s2) kt) ⟨rfl, kt _ _ kb, c, rfl, kt _ _ kc⟩
  · have e : i = xs.length := by omega
    subst e
    exact .inl ⟨⟨xs, hT1, Nat.le_refl _⟩, hq H1 D L h1 h2 h3 nD⟩
end
end R

/-! ### matrices and points -/
def mx (m n : M4) : M4 := (m.1 * n.1 + m.2.1 * n.2.2.1, m.1 * n.2.1 + m.2.1 * n.2.2.2, m.2.2.1 * n.1 + m.2.2.2 * n.2.2.1, m.2.2.1 * n.2.1 + m.2.2.2 * n.2.2.2)
def adjM (m : M4) : M4 := (m.2.2.2, -m.2.1, -m.2.2.1, m.1)
def apM (m : M4) (p : Int × Int) : Int × Int := (m.1 * p.1 + m.2.1 * p.2, m.2.2.1 * p.1 + m.2.2.2 * p.2)
def vF (f : Fm) (p : Int × Int) : Int := fA f.1 f.2.1 f.2.2 p.1 p.2
theorem m4x {m n : M4} (h1 : m.1 = n.1) (h2 : m.2.1 = n.2.1) (h3 : m.2.2.1 = n.2.2.1) (h4 : m.2.2.2 = n.2.2.2) : m = n := Prod.ext h1 (Prod.ext h2 (Prod.ext h3 h4))
theorem actM_mx (f : Fm) (m n : M4) : actM (actM f m) n = actM f (mx m n) := actF_mul f _ _ _ _ _ _ _ _
theorem det_mx (m n : M4) : detM (mx m n) = detM m * detM n := by
  unfold detM mx
  grind
theorem det_adj (m : M4) : detM (adjM m) = detM m := by
  unfold detM adjM
  grind
theorem mx_one (m : M4) : mx m (1, 0, 0, 1) = m := by
  refine m4x ?_ ?_ ?_ ?_ <;> (unfold mx; dsimp only; omega)
theorem one_mx (m : M4) : mx (1, 0, 0, 1) m = m := by
  refine m4x ?_ ?_ ?_ ?_ <;> (unfold mx; dsimp only; omega)
theorem mx_assoc (m n k : M4) : mx (mx m n) k = mx m (mx n k) := by
  refine m4x ?_ ?_ ?_ ?_ <;> (unfold mx; dsimp only; grind)
theorem mx_adj {m : M4} (h : detM m = 1) : mx m (adjM m) = (1, 0, 0, 1) := by
  unfold detM at h
  refine m4x ?_ ?_ ?_ ?_ <;> (unfold mx adjM; dsimp only; grind)
theorem adj_mx {m : M4} (h : detM m = 1) : mx (adjM m) m = (1, 0, 0, 1) := by
  unfold detM at h
  refine m4x ?_ ?_ ?_ ?_ <;> (unfold mx adjM; dsimp only; grind)
theorem ap_mx (m n : M4) (p : Int × Int) : apM (mx m n) p = apM m (apM n p) := by
  refine Prod.ext ?_ ?_ <;> (unfold mx apM; dsimp only; grind)
theorem ap_one (p : Int × Int) : apM (1, 0, 0, 1) p = p := by
  refine Prod.ext ?_ ?_ <;> (unfold apM; dsimp only; omega)
theorem act_one (f : Fm) : actM f (1, 0, 0, 1) = f := actF_one f
theorem vF_act (f : Fm) (m : M4) (p : Int × Int) : vF (actM f m) p = vF f (apM m p) := by
  obtain ⟨a, b, c⟩ := f
  obtain ⟨p1, p2, p3, p4⟩ := m
  obtain ⟨x, y⟩ := p
  unfold vF actM actF apM fA fB
  dsimp only
  grind
theorem act_undo {f h : Fm} {m : M4} (d : detM m = 1) (e : h = actM f m) : f = actM h (adjM m) := by rw [e, actM_mx, mx_adj d, act_one]
/-- what leaves a form as it is -/
def Fx (f : Fm) (s : M4) : Prop := detM s = 1 ∧ actM f s = f
theorem Fx.inv {f : Fm} {s : M4} (h : Fx f s) : Fx f (adjM s) := ⟨(det_adj s).trans h.1, (act_undo h.1 h.2.symm).symm⟩
theorem Fx.mul {f : Fm} {s t : M4} (h : Fx f s) (g : Fx f t) : Fx f (mx s t) := ⟨by rw [det_mx, h.1, g.1]; rfl, by rw [← actM_mx, h.2, g.2]⟩
theorem Fx.one (f : Fm) : Fx f (1, 0, 0, 1) := ⟨rfl, act_one f⟩
theorem Fx.val {f : Fm} {s : M4} (h : Fx f s) (p : Int × Int) : vF f (apM s p) = vF f p := by rw [← vF_act, h.2]
/-! ### rooted forms -/
/-- a form (n, b, c) of discriminant d with 0 <= b < 2 * abs(n) -/
def Rt (d n : Int) (h : Fm) : Prop := h.1 = n ∧ 0 ≤ h.2.1 ∧ h.2.1 < 2 * (n.natAbs : Int) ∧ dsc h.1 h.2.1 h.2.2 = d
theorem fix_e1 {m : M4} (d : detM m = 1) (e : apM m (1, 0) = (1, 0)) : m = (1, m.2.1, 0, 1) := by
  unfold detM at d
  unfold apM at e
  injection e with e1 e2
  dsimp only at e1 e2
  have h1 : m.1 = 1 := by omega
  have h2 : m.2.2.1 = 0 := by omega
  rw [h1, h2] at d
  exact m4x h1 rfl h2 (by show m.2.2.2 = 1; omega)
theorem up_form (h : Fm) (t : Int) : actM h (1, t, 0, 1) = (h.1, h.2.1 + 2 * h.1 * t, h.1 * t * t + h.2.1 * t + h.2.2) := by
  unfold actM actF fA fB
  dsimp only
  refine Prod.ext ?_ (Prod.ext ?_ ?_) <;> (dsimp only; grind)
theorem rt_shift {d n : Int} {h h' : Fm} {t : Int} (n0 : n ≠ 0) (R : Rt d n h) (R' : Rt d n h') (e : h = actM h' (1, t, 0, 1)) : t = 0 := by
  rw [up_form] at e
  obtain ⟨r1, r2, r3, _⟩ := R
  obtain ⟨q1, q2, q3, _⟩ := R'
  have e2 : h.2.1 = h'.2.1 + 2 * h'.1 * t := congrArg (fun f : Fm => f.2.1) e
  rw [q1] at e2
  by_cases z : t = 0
  · exact z
  · exfalso
    have h1 : (2 * n * t).natAbs = 2 * n.natAbs * t.natAbs := by rw [Int.natAbs_mul, Int.natAbs_mul]; rfl
    have h2 : 2 * n.natAbs * 1 ≤ 2 * n.natAbs * t.natAbs := Nat.mul_le_mul_left _ (by omega)
    omega
theorem rt_disc {d n : Int} {h h' : Fm} (n0 : n ≠ 0) (R : Rt d n h) (R' : Rt d n h') (e : h.2.1 = h'.2.1) : h = h' := by
  obtain ⟨r1, r2, r3, r4⟩ := R
  obtain ⟨q1, q2, q3, q4⟩ := R'
  unfold dsc at r4 q4
  rw [r1, e] at r4
  rw [q1] at q4
  have k : n * h.2.2 = n * h'.2.2 := by
    have : 4 * n * h.2.2 = 4 * n * h'.2.2 := by omega
    have a1 : 4 * (n * h.2.2) = 4 * (n * h'.2.2) := by grind
    omega
  exact Prod.ext (r1.trans q1.symm) (Prod.ext e (Int.eq_of_mul_eq_mul_left n0 k))
/-- what stands behind a first point: the side, the rooted form, the matrix -/
abbrev Tr := Int × Fm × M4
def pT (t : Tr) : Int × Int := apM t.2.2 (t.1, 0)
def Good (f : Fm) (d n : Int) (t : Tr) : Prop := 0 < t.1 ∧ (∃ k, n = t.1 * t.1 * k ∧ Rt d k t.2.1) ∧ detM t.2.2 = 1 ∧ t.2.1 = actM f t.2.2
/-- first points: each point of the value is a self-change times exactly one of them -/
structure FPs (f : Fm) (n : Int) (pts : List (Int × Int)) : Prop where
  val : ∀ p ∈ pts, vF f p = n
  all : ∀ v, vF f v = n → ∃ p ∈ pts, ∃ s, Fx f s ∧ v = apM s p
  one : pts.Pairwise fun p q => ∀ s, Fx f s → apM s p ≠ q
  fre : ∀ p ∈ pts, ∀ s, Fx f s → apM s p = p → s = (1, 0, 0, 1)
theorem ap_side (m : M4) (s : Int) : apM m (s, 0) = (s * m.1, s * m.2.2.1) := by
  unfold apM
  refine Prod.ext ?_ ?_ <;> (dsimp only; grind)
theorem gI_col {m : M4} (d : detM m = 1) {s : Int} (s0 : 0 < s) : gI (s * m.1) (s * m.2.2.1) = s := by
  have h1 : s ∣ gI (s * m.1) (s * m.2.2.1) := by
    unfold gI
    have a1 : s.natAbs ∣ (s * m.1).natAbs := by rw [Int.natAbs_mul]; exact ⟨_, rfl⟩
    have a2 : s.natAbs ∣ (s * m.2.2.1).natAbs := by rw [Int.natAbs_mul]; exact ⟨_, rfl⟩
    have := Nat.dvd_gcd a1 a2
    exact Int.natAbs_dvd_natAbs.mp (by simpa using this)
  have h2 : gI (s * m.1) (s * m.2.2.1) ∣ s := by
    have a1 : gI (s * m.1) (s * m.2.2.1) ∣ s * m.1 := by
      unfold gI
      exact Int.natAbs_dvd_natAbs.mp (by simpa using Nat.gcd_dvd_left _ _)
    have a2 : gI (s * m.1) (s * m.2.2.1) ∣ s * m.2.2.1 := by
      unfold gI
      exact Int.natAbs_dvd_natAbs.mp (by simpa using Nat.gcd_dvd_right _ _)
    have a3 := Int.dvd_sub (Int.dvd_trans a1 ⟨m.2.2.2, rfl⟩) (Int.dvd_trans a2 ⟨m.2.1, rfl⟩)
    unfold detM at d
    have e : s * m.1 * m.2.2.2 - s * m.2.2.1 * m.2.1 = s := by
      have : s * (m.1 * m.2.2.2 - m.2.1 * m.2.2.1) = s * 1 := by rw [d]
      grind
    rw [e] at a3
    exact a3
  have n1 : 0 ≤ gI (s * m.1) (s * m.2.2.1) := by
    unfold gI
    omega
  exact Int.dvd_antisymm n1 (by omega) h2 h1
theorem good_one {f : Fm} {d n : Int} (n0 : n ≠ 0) {t u : Tr} (T : Good f d n t) (U : Good f d n u) {s : M4} (F : Fx f s) (e : apM s (pT t) = pT u) : t.1 = u.1 ∧ t.2.1 = u.2.1 ∧ (t.2.2 = u.2.2 → s = (1, 0, 0, 1)) := by
  obtain ⟨t0, ⟨k, hk, Rk⟩, tm, te⟩ := T
  obtain ⟨u0, ⟨l, hl, Rl⟩, um, ue⟩ := U
  obtain ⟨a, h, m⟩ := t
  obtain ⟨b, g, o⟩ := u
  dsimp only at *
  unfold pT at e
  dsimp only at e
  have dsm : detM (mx s m) = 1 := by rw [det_mx, F.1, tm]; rfl
  rw [← ap_mx, ap_side, ap_side] at e
  injection e with e1 e2
  have ab : a = b := by
    have g1 := gI_col dsm t0
    have g2 := gI_col um u0
    rw [e1, e2, g2] at g1
    exact g1.symm
  subst ab
  have c1 : (mx s m).1 = o.1 := Int.eq_of_mul_eq_mul_left (by omega) e1
  have c2 : (mx s m).2.2.1 = o.2.2.1 := Int.eq_of_mul_eq_mul_left (by omega) e2
  have aa : a * a ≠ 0 := Int.mul_ne_zero (by omega) (by omega)
  have kl : k = l := Int.eq_of_mul_eq_mul_left aa (by rw [← hk, ← hl])
  subst kl
  have k0 : k ≠ 0 := fun z => n0 (by rw [hk, z, Int.mul_zero])
  -- what leads from the one to the other leaves (1, 0) where it is
  have dN : detM (mx (adjM o) (mx s m)) = 1 := by rw [det_mx, det_adj, um, dsm]; rfl
  have eN : apM (mx (adjM o) (mx s m)) (1, 0) = (1, 0) := by
    have q : apM (mx s m) (1, 0) = apM o (1, 0) := by rw [ap_side, ap_side, c1, c2]
    rw [ap_mx, q, ← ap_mx, adj_mx um, ap_one]
  have fN := fix_e1 dN eN
  have hN : h = actM g (mx (adjM o) (mx s m)) := by
    rw [← actM_mx, ← act_undo um ue, ← actM_mx, F.2]
    exact te
  rw [fN] at hN
  have z := rt_shift k0 Rk Rl hN
  have one : mx (adjM o) (mx s m) = (1, 0, 0, 1) := by rw [fN, z]
  have sm : mx s m = o := by
    have q : mx o (mx (adjM o) (mx s m)) = mx o (1, 0, 0, 1) := by rw [one]
    rw [← mx_assoc, mx_adj um, one_mx, mx_one] at q
    exact q
  refine ⟨rfl, ?_, fun eo => ?_⟩
  · rw [z] at hN
    exact hN.trans (act_one g)
  · rw [← eo] at sm
    have q : mx (mx s m) (adjM m) = mx m (adjM m) := by rw [sm]
    rw [mx_assoc, mx_adj tm, mx_one] at q
    exact q
theorem good_all {f : Fm} {d n : Int} (n0 : n ≠ 0) (fd : dsc f.1 f.2.1 f.2.2 = d) {v : Int × Int} (e : vF f v = n) :
    ∃ (s : Int) (k : Int) (h : Fm) (M : M4), 0 < s ∧ n = s * s * k ∧ Rt d k h ∧ detM M = 1 ∧ h = actM f M ∧ v = apM M (s, 0) := by
  obtain ⟨x, y⟩ := v
  unfold vF at e
  dsimp only at e
  have g0 : gI x y ≠ 0 := fun z => by
    have h : Nat.gcd x.natAbs y.natAbs = 0 := by
      unfold gI at z
      omega
    have hx : x = 0 := by have := Nat.eq_zero_of_gcd_eq_zero_left h; omega
    have hy : y = 0 := by have := Nat.eq_zero_of_gcd_eq_zero_right h; omega
    rw [hx, hy] at e
    unfold fA at e
    simp at e
    exact n0 e.symm
  have gp : 0 < gI x y := by
    unfold gI at g0 ⊢
    omega
  obtain ⟨u, w, hb⟩ := bez_int x y
  have hb : u * x + w * y = gI x y := hb
  obtain ⟨x0, hx⟩ : gI x y ∣ x := by
    unfold gI
    exact Int.natAbs_dvd_natAbs.mp (by simpa using Nat.gcd_dvd_left _ _)
  obtain ⟨y0, hy⟩ : gI x y ∣ y := by
    unfold gI
    exact Int.natAbs_dvd_natAbs.mp (by simpa using Nat.gcd_dvd_right _ _)
  generalize gI x y = s at *
  have d1 : u * x0 + w * y0 = 1 := by
    have : s * (u * x0 + w * y0) = s * 1 := by
      rw [hx, hy] at hb
      grind
    exact Int.eq_of_mul_eq_mul_left (by omega) this
  obtain ⟨k, hk⟩ : ∃ k, vF f (x0, y0) = k := ⟨_, rfl⟩
  have en : n = s * s * k := by
    rw [← e, ← hk, hx, hy]
    unfold vF fA
    dsimp only
    grind
  have k0 : k ≠ 0 := fun z => n0 (by rw [en, z, Int.mul_zero])
  obtain ⟨B, hB⟩ : ∃ B, (actM f (x0, -w, y0, u)).2.1 = B := ⟨_, rfl⟩
  have dM : detM (x0, -w, y0, u) = 1 := by
    unfold detM
    dsimp only
    grind
  -- b between 0 and 2 * abs(k)
  obtain ⟨t, ht1, ht2⟩ : ∃ t, 0 ≤ B + 2 * k * t ∧ B + 2 * k * t < 2 * (k.natAbs : Int) := by
    have m0 := Int.emod_nonneg B (show 2 * (k.natAbs : Int) ≠ 0 by omega)
    have m1 := Int.emod_lt_of_pos B (show 0 < 2 * (k.natAbs : Int) by omega)
    have m2 := Int.mul_ediv_add_emod B (2 * (k.natAbs : Int))
    by_cases z : 0 < k
    · rw [show (k.natAbs : Int) = k by omega] at *
      refine ⟨-(B / (2 * k)), ?_, ?_⟩ <;> rw [Int.mul_neg] <;> omega
    · rw [show (k.natAbs : Int) = -k by omega] at *
      have e3 : 2 * -k * (B / (2 * -k)) = -(2 * k * (B / (2 * -k))) := by
        rw [Int.mul_neg, Int.neg_mul]
      refine ⟨B / (2 * -k), ?_, ?_⟩ <;> omega
  have f1 : (actM f (x0, -w, y0, u)).1 = k := by
    rw [← hk]
    unfold actM actF vF
    rfl
  have dd : dsc (actM f (x0, -w, y0, u)).1 (actM f (x0, -w, y0, u)).2.1 (actM f (x0, -w, y0, u)).2.2 = d := by
    unfold actM actF
    dsimp only
    rw [dsc_act]
    unfold detM at dM
    dsimp only at dM
    rw [dM, fd]
    omega
  refine ⟨s, k, actM f (mx (x0, -w, y0, u) (1, t, 0, 1)), mx (x0, -w, y0, u) (1, t, 0, 1), gp, en, ?_, by rw [det_mx, dM]; unfold detM; dsimp only; omega, rfl, ?_⟩
  · rw [← actM_mx, up_form, f1, hB]
    refine ⟨rfl, ht1, ht2, ?_⟩
    rw [f1, hB] at dd
    rw [← dd]
    unfold dsc
    dsimp only
    grind
  · rw [ap_side]
    unfold mx
    refine Prod.ext ?_ ?_
    · dsimp only
      rw [hx]
      grind
    · dsimp only
      rw [hy]
      grind
theorem fps_of {f : Fm} {d n : Int} (n0 : n ≠ 0) (fd : dsc f.1 f.2.1 f.2.2 = d) {ts : List Tr} (h1 : ∀ t ∈ ts, Good f d n t)
    (h2 : ∀ s k h m, 0 < s → n = s * s * k → Rt d k h → detM m = 1 → h = actM f m → ∃ t ∈ ts, t.1 = s ∧ t.2.1 = h) (h3 : ts.Pairwise fun t u => ¬ (t.1 = u.1 ∧ t.2.1 = u.2.1)) : FPs f n (ts.map pT) := by
  refine ⟨fun p hp => ?_, fun v e => ?_, ?_, fun p hp s F e => ?_⟩
  · obtain ⟨t, ht, rfl⟩ := List.mem_map.mp hp
    obtain ⟨t0, ⟨k, hk, Rk⟩, tm, te⟩ := h1 t ht
    unfold pT
    rw [← vF_act, ← te]
    unfold vF fA
    dsimp only
    rw [hk, Rk.1]
    grind
  · obtain ⟨s, k, h, M, s0, en, R, dM, eM, ev⟩ := good_all n0 fd e
    obtain ⟨⟨a, h', m⟩, ht, rfl, rfl⟩ := h2 s k h M s0 en R dM eM
    obtain ⟨_, _, tm, te⟩ := h1 _ ht
    dsimp only at *
    refine ⟨_, List.mem_map.mpr ⟨_, ht, rfl⟩, mx M (adjM m), ⟨by rw [det_mx, dM, det_adj, tm]; rfl, ?_⟩, ?_⟩
    · rw [← actM_mx, ← eM]
      exact (act_undo tm te).symm
    · unfold pT
      dsimp only
      rw [← ap_mx, mx_assoc, adj_mx tm, mx_one]
      exact ev
  · refine List.pairwise_map.mpr (h3.imp_of_mem fun {t u} ht hu no s F e => ?_)
    obtain ⟨a, b, _⟩ := good_one n0 (h1 t ht) (h1 u hu) F e
    exact no ⟨a, b⟩
  · obtain ⟨t, ht, rfl⟩ := List.mem_map.mp hp
    exact (good_one n0 (h1 t ht) (h1 t ht) F e).2.2 rfl
/-- a form times a number -/
def scF (g : Int) (f : Fm) : Fm := (g * f.1, g * f.2.1, g * f.2.2)
theorem vF_sc (g : Int) (f : Fm) (v : Int × Int) : vF (scF g f) v = g * vF f v := by
  unfold vF scF fA
  dsimp only
  grind
theorem act_sc (g : Int) (f : Fm) (m : M4) : actM (scF g f) m = scF g (actM f m) := by
  unfold actM actF scF fA fB
  refine Prod.ext ?_ (Prod.ext ?_ ?_) <;> (dsimp only; grind)
theorem sc_inj {g : Int} (g0 : g ≠ 0) {f h : Fm} (e : scF g f = scF g h) : f = h := by
  unfold scF at e
  injection e with e1 e2
  injection e2 with e2 e3
  exact Prod.ext (Int.eq_of_mul_eq_mul_left g0 e1) (Prod.ext (Int.eq_of_mul_eq_mul_left g0 e2) (Int.eq_of_mul_eq_mul_left g0 e3))
theorem fx_sc {g : Int} (g0 : g ≠ 0) {f : Fm} {s : M4} : Fx (scF g f) s ↔ Fx f s := by
  unfold Fx
  rw [act_sc]
  exact ⟨fun h => ⟨h.1, sc_inj g0 h.2⟩, fun h => ⟨h.1, by rw [h.2]⟩⟩
theorem FPs.sc {g : Int} (g0 : g ≠ 0) {f : Fm} {n : Int} {pts : List (Int × Int)} (h : FPs f n pts) : FPs (scF g f) (g * n) pts := by
  refine ⟨fun p hp => by rw [vF_sc, h.val p hp], fun v e => ?_, h.one.imp fun k s F => k s ((fx_sc g0).mp F), fun p hp s F => h.fre p hp s ((fx_sc g0).mp F)⟩
  rw [vF_sc] at e
  obtain ⟨p, hp, s, F, ev⟩ := h.all v (Int.eq_of_mul_eq_mul_left g0 e)
  exact ⟨p, hp, s, (fx_sc g0).mpr F, ev⟩
theorem fps_nil {g : Int} {f : Fm} {n : Int} (h : ¬ g ∣ n) : FPs (scF g f) n [] := by
  refine ⟨fun p hp => absurd hp List.not_mem_nil, fun v e => ?_, .nil, fun p hp => absurd hp List.not_mem_nil⟩
  rw [vF_sc] at e
  exact absurd ⟨vF f v, e.symm⟩ h
/-! ### squares that measure a number -/
def hvL (l : List (Nat × Nat)) : List (Nat × Nat) := l.map fun p => (p.1, p.2 / 2)
structure SqOk (N : Nat) (l : List (Nat × Nat)) : Prop where
  pp : ppM N = some l
  ln : l.length ≤ 100
  few : (prdL (hvL l)).length ≤ 20
  ok : PrdOk (hvL l)
  nd : (prdL (hvL l)).Nodup
  mem : ∀ g, g ∈ prdL (hvL l) ↔ 0 < g ∧ g * g ∣ (N : Int)
  sm : ∀ x ∈ l, x.1 < 2 ^ 59 ∧ x.2 < 2 ^ 59
/-! ### the two sorts -/
def RdS : Srt → Fm → Prop
  | .d _ g, h => RedD (g * h.1) (g * h.2.1) (g * h.2.2)
  | .i D, h => RedI D h.1 h.2.1
  | _, _ => False
def SnD : Srt → Prop
  | .d _ _ => True
  | .i _ => True
  | _ => False
def SmG (f : Fm) : Prop := f.1.natAbs ≤ 274877906944 ∧ f.2.1.natAbs ≤ 274877906944 ∧ f.2.2.natAbs ≤ 274877906944
structure WyS (S : Srt) (f : Fm) (es : List (Fm × M4)) : Prop where
  ok : ∀ e ∈ es, detM e.2 = 1 ∧ e.1 = actM f e.2 ∧ BdM 40000 e.2
  all : ∀ h m, detM m = 1 → h = actM f m → RdS S h → ∃ e ∈ es, e.1 = h
abbrev wyL (es : List (Fm × M4)) : List (List Int × List Int) := es.map fun e => (fL e.1, mL e.2)
theorem wy_some {es : List (Fm × M4)} {h : Fm} {k : List Int} (e : lkE (wyL es) (fL h) = some k) : ∃ m, (h, m) ∈ es ∧ k = mL m := by
  unfold lkE at e
  obtain ⟨⟨a, b⟩, he, rfl⟩ := Option.map_eq_some_iff.mp e
  obtain ⟨⟨g, m⟩, hm, e2⟩ := List.mem_map.mp (List.mem_of_find?_eq_some he)
  have h5 := List.find?_some (p := fun e : List Int × List Int => decide (e.1 = fL h)) he
  have h4 : a = fL h := of_decide_eq_true h5
  injection e2 with e3 e4
  rw [← e3] at h4
  obtain rfl : g = h := fL_inj h4
  exact ⟨m, hm, e4.symm⟩
theorem wy_none {es : List (Fm × M4)} {h : Fm} (e : lkE (wyL es) (fL h) = none) : ∀ x ∈ es, x.1 ≠ h := by
  intro x hx z
  unfold lkE at e
  rw [Option.map_eq_none_iff, List.find?_eq_none] at e
  have := e _ (List.mem_map.mpr ⟨x, hx, rfl⟩)
  rw [z, decide_eq_true rfl] at this
  exact this rfl
/-- the sort of a form that is not split nor flat -/
def sgF (f : Fm) : Int := if 0 < f.1 then 1 else -1
def dcF (f : Fm) : Int := dsc f.1 f.2.1 f.2.2
def srtF (f : Fm) : Srt := if dcF f < 0 then .d (-dcF f) (sgF f) else .i (dcF f)
def Ns (f : Fm) : Prop := InS (srtF f) f
theorem srt_d {f : Fm} (h : dcF f < 0) : srtF f = .d (-dcF f) (sgF f) := if_pos h
theorem srt_i {f : Fm} (h : ¬ dcF f < 0) : srtF f = .i (dcF f) := if_neg h
theorem ns_same {f g : Fm} (N : Ns f) (e : dcF g = dcF f) (g0 : g.1 ≠ 0) : Ns g := by
  unfold Ns at N ⊢
  by_cases h : dcF f < 0
  · rw [srt_d h] at N
    obtain ⟨_, F⟩ := N
    rw [srt_d (by rw [e]; exact h)]
    have hs : (sgF g = 1 ∧ 0 < g.1) ∨ (sgF g = -1 ∧ g.1 < 0) := by
      unfold sgF
      by_cases z : 0 < g.1
      · exact .inl ⟨if_pos z, z⟩
      · exact .inr ⟨if_neg z, by omega⟩
    refine ⟨hs, pf_of (sg_or hs) (show dcF g = - -dcF g by omega) (by omega) (by have := F.e1; omega) ?_⟩
    rcases hs with ⟨z, y⟩ | ⟨z, y⟩ <;> rw [z] <;> omega
  · rw [srt_i h] at N
    obtain ⟨F, hD⟩ := N
    rw [srt_i (by rw [e]; exact h), e]
    exact ⟨⟨e, F.d0, F.d1, F.ns⟩, hD⟩
theorem dc_act {f : Fm} {m : M4} (dm : detM m = 1) : dcF (actM f m) = dcF f := by
  obtain ⟨p, q, r, s⟩ := m
  have dm : p * s - q * r = 1 := dm
  unfold dcF actM actF
  dsimp only
  rw [dsc_act, dm, Int.mul_one, Int.mul_one]
theorem sign_val {f : Fm} {p r : Int} (h : dcF f < 0) (hn : ¬ (p = 0 ∧ r = 0)) : 0 < f.1 * fA f.1 f.2.1 f.2.2 p r := by
  obtain ⟨a, b, c⟩ := f
  have h : dsc a b c < 0 := h
  show 0 < a * fA a b c p r
  have e5 : 4 * (a * fA a b c p r) = (2 * a * p + b * r) * (2 * a * p + b * r) + -dsc a b c * (r * r) := by
    unfold dsc fA
    grind
  have s1 := sqn (2 * a * p + b * r)
  by_cases z : r = 0
  · subst z
    have p0 : p ≠ 0 := fun z => hn ⟨z, rfl⟩
    have a0 : a ≠ 0 := fun z => by
      rw [z] at h
      unfold dsc at h
      have := sqn b
      omega
    have ne : 2 * a * p + b * 0 ≠ 0 := by
      rw [Int.mul_zero, Int.add_zero, Int.mul_assoc]
      have := Int.mul_ne_zero a0 p0
      omega
    have := Int.mul_ne_zero ne ne
    omega
  · have k1 := Int.mul_ne_zero z z
    have k2 := sqn r
    have k : 0 < -dsc a b c * (r * r) := Int.mul_pos (by omega) (by omega)
    omega
theorem col_ne {m : M4} (dm : detM m = 1) : ¬ (m.1 = 0 ∧ m.2.2.1 = 0) := fun ⟨z1, z2⟩ => by
  unfold detM at dm
  rw [z1, z2] at dm
  omega
theorem root_no {D q : Int} (h : rootI D * rootI D ≠ D) (d0 : 0 ≤ D) (e : q * q = D) : False := by
  have e1 : (q.natAbs : Int) * (q.natAbs : Int) = D := by rw [← e]; exact Int.natAbs_mul_self' q
  obtain ⟨x, y, w⟩ := rootI_spec (n := D) d0
  refine h ?_
  generalize rootI D = r at *
  have h1 : r ≤ (q.natAbs : Int) := by
    by_cases z : r ≤ (q.natAbs : Int)
    · exact z
    · have := Int.mul_le_mul (show (q.natAbs : Int) + 1 ≤ r by omega) (show (q.natAbs : Int) + 1 ≤ r by omega) (by omega) (by omega)
      have e2 : ((q.natAbs : Int) + 1) * ((q.natAbs : Int) + 1) = (q.natAbs : Int) * (q.natAbs : Int) + 2 * (q.natAbs : Int) + 1 := by grind
      omega
  have h2 : (q.natAbs : Int) ≤ r := by
    by_cases z : (q.natAbs : Int) ≤ r
    · exact z
    · have := Int.mul_le_mul (show r + 1 ≤ (q.natAbs : Int) by omega) (show r + 1 ≤ (q.natAbs : Int) by omega) (by omega) (by omega)
      omega
  rw [show r = (q.natAbs : Int) by omega]
  exact e1
theorem Ns.a0 {f : Fm} (N : Ns f) : f.1 ≠ 0 := by
  unfold Ns at N
  by_cases h : dcF f < 0
  · rw [srt_d h] at N
    rcases N.1 with ⟨_, y⟩ | ⟨_, y⟩ <;> omega
  · rw [srt_i h] at N
    intro z
    obtain ⟨F, _⟩ := N
    have d := F.d
    obtain ⟨a, b, c⟩ := f
    have z : a = 0 := z
    subst z
    have d : dsc 0 b c = dcF (0, b, c) := d
    refine F.ns ?_
    show rootI (dsc 0 b c) * rootI (dsc 0 b c) = dsc 0 b c
    have e : dsc 0 b c = (b.natAbs : Int) * (b.natAbs : Int) := by
      have e0 := Int.natAbs_mul_self' b
      rw [e0]
      unfold dsc
      grind
    obtain ⟨x, y, w⟩ := rootI_spec (n := dsc 0 b c) (by rw [e]; exact sqn _)
    rw [e] at x y w ⊢
    generalize rootI ((b.natAbs : Int) * (b.natAbs : Int)) = r at *
    have h1 : r ≤ (b.natAbs : Int) := by
      by_cases q : r ≤ (b.natAbs : Int)
      · exact q
      · have := Int.mul_le_mul (show (b.natAbs : Int) + 1 ≤ r by omega) (show (b.natAbs : Int) + 1 ≤ r by omega) (by omega) (by omega)
        have e2 : ((b.natAbs : Int) + 1) * ((b.natAbs : Int) + 1) = (b.natAbs : Int) * (b.natAbs : Int) + 2 * (b.natAbs : Int) + 1 := by grind
        omega
    have h2 : (b.natAbs : Int) ≤ r := by
      by_cases q : (b.natAbs : Int) ≤ r
      · exact q
      · have := Int.mul_le_mul (show r + 1 ≤ (b.natAbs : Int) by omega) (show r + 1 ≤ (b.natAbs : Int) by omega) (by omega) (by omega)
        omega
    rw [show r = (b.natAbs : Int) by omega]
theorem Ns.act {f : Fm} {m : M4} (N : Ns f) (dm : detM m = 1) : Ns (actM f m) ∧ srtF (actM f m) = srtF f := by
  have e := dc_act (f := f) dm
  by_cases h : dcF f < 0
  · have v := sign_val h (col_ne dm)
    have v : 0 < f.1 * (actM f m).1 := v
    have g0 : (actM f m).1 ≠ 0 := fun z => by
      rw [z, Int.mul_zero] at v
      omega
    refine ⟨ns_same N e g0, ?_⟩
    rw [srt_d h, srt_d (by rw [e]; exact h), e]
    congr 1
    unfold sgF
    by_cases z : 0 < f.1
    · rw [if_pos z, if_pos]
      exact Int.pos_of_mul_pos_right v (by omega)
    · rw [if_neg z, if_neg]
      intro y
      have := Int.mul_nonneg (show 0 ≤ -f.1 by omega) (show 0 ≤ (actM f m).1 by omega)
      rw [Int.neg_mul] at this
      omega
  · have hs : srtF (actM f m) = srtF f := by rw [srt_i h, srt_i (by rw [e]; exact h), e]
    refine ⟨?_, hs⟩
    unfold Ns at N ⊢
    rw [hs]
    rw [srt_i h] at N ⊢
    exact ⟨IFf.act (f := f) N.1 dm, N.2⟩
theorem bdM_mx {n k : Nat} {m p : M4} (h : BdM n m) (g : BdM k p) : BdM (n + k + 1) (mx m p) := by
  obtain ⟨h1, h2, h3, h4⟩ := h
  obtain ⟨g1, g2, g3, g4⟩ := g
  exact ⟨((h1.mul g1).add (h2.mul g3)).mono (by omega), ((h1.mul g2).add (h2.mul g4)).mono (by omega), ((h3.mul g1).add (h4.mul g3)).mono (by omega), ((h3.mul g2).add (h4.mul g4)).mono (by omega)⟩
theorem bdM_adj {n : Nat} {m : M4} (h : BdM n m) : BdM n (adjM m) := ⟨h.2.2.2, h.2.1.neg, h.2.2.1.neg, h.1⟩
theorem bdM_mono {n k : Nat} {m : M4} (h : BdM n m) (l : n ≤ k) : BdM k m := ⟨h.1.mono l, h.2.1.mono l, h.2.2.1.mono l, h.2.2.2.mono l⟩
/-! ### the self-changes of a definite form -/
def gsF (f : Fm) : List M4 := (unitsL (dcF f)).map fun p => ((p.1 - f.2.1 * p.2) / 2, -f.2.2 * p.2, f.1 * p.2, (p.1 + f.2.1 * p.2) / 2)
theorem un_eq {d t u : Int} (h : (t, u) ∈ unitsL d) : t * t = d * (u * u) + 4 := by
  unfold unitsL at h
  by_cases z : d = -3
  · rw [if_pos z] at h
    subst z
    simp only [List.mem_cons, List.not_mem_nil, or_false, Prod.mk.injEq] at h
    rcases h with ⟨rfl, rfl⟩ | ⟨rfl, rfl⟩ | ⟨rfl, rfl⟩ | ⟨rfl, rfl⟩ | ⟨rfl, rfl⟩ | ⟨rfl, rfl⟩ <;> rfl
  · rw [if_neg z] at h
    by_cases y : d = -4
    · rw [if_pos y] at h
      subst y
      simp only [List.mem_cons, List.not_mem_nil, or_false, Prod.mk.injEq] at h
      rcases h with ⟨rfl, rfl⟩ | ⟨rfl, rfl⟩ | ⟨rfl, rfl⟩ | ⟨rfl, rfl⟩ <;> rfl
    · rw [if_neg y] at h
      simp only [List.mem_cons, List.not_mem_nil, or_false, Prod.mk.injEq] at h
      rcases h with ⟨rfl, rfl⟩ | ⟨rfl, rfl⟩ <;> omega
theorem un_small {d t u : Int} (h : (t, u) ∈ unitsL d) : t.natAbs ≤ 2 ∧ (u = -1 ∨ u = 0 ∨ u = 1) := by
  unfold unitsL at h
  by_cases z : d = -3
  · rw [if_pos z] at h
    simp only [List.mem_cons, List.not_mem_nil, or_false, Prod.mk.injEq] at h
    rcases h with ⟨rfl, rfl⟩ | ⟨rfl, rfl⟩ | ⟨rfl, rfl⟩ | ⟨rfl, rfl⟩ | ⟨rfl, rfl⟩ | ⟨rfl, rfl⟩ <;> decide
  · rw [if_neg z] at h
    by_cases y : d = -4
    · rw [if_pos y] at h
      simp only [List.mem_cons, List.not_mem_nil, or_false, Prod.mk.injEq] at h
      rcases h with ⟨rfl, rfl⟩ | ⟨rfl, rfl⟩ | ⟨rfl, rfl⟩ | ⟨rfl, rfl⟩ <;> decide
    · rw [if_neg y] at h
      simp only [List.mem_cons, List.not_mem_nil, or_false, Prod.mk.injEq] at h
      rcases h with ⟨rfl, rfl⟩ | ⟨rfl, rfl⟩ <;> decide
theorem gs_bd {f : Fm} (b1 : f.1.natAbs ≤ 1000000) (b2 : f.2.1.natAbs ≤ 1000000) (b3 : f.2.2.natAbs ≤ 1000000) : ∀ m ∈ gsF f, BdM 60 m := by
  obtain ⟨a, b, c⟩ := f
  dsimp only at b1 b2 b3
  intro m hm
  obtain ⟨⟨t, u⟩, hu, rfl⟩ := List.mem_map.mp hm
  obtain ⟨t1, u1⟩ := un_small hu
  rcases u1 with rfl | rfl | rfl <;> refine ⟨Bd.om ?_, Bd.om ?_, Bd.om ?_, Bd.om ?_⟩ <;> dsimp only <;> omega
theorem un_par {A B C t u : Int} (h : t * t = dsc A B C * (u * u) + 4) : ∃ x y, t - B * u = 2 * x ∧ t + B * u = 2 * y := by
  have e : (t - B * u) * (t + B * u) = 4 * (1 - A * C * (u * u)) := by
    unfold dsc at h
    grind
  have p1 : (t - B * u) % 2 = 0 := by
    rcases Int.emod_two_eq (t - B * u) with z | z
    · exact z
    · exfalso
      have z2 : (t + B * u) % 2 = 1 := by omega
      obtain ⟨x, hx⟩ : ∃ x, t - B * u = 2 * x + 1 := ⟨(t - B * u) / 2, by omega⟩
      obtain ⟨y, hy⟩ : ∃ y, t + B * u = 2 * y + 1 := ⟨(t + B * u) / 2, by omega⟩
      rw [hx, hy] at e
      have : (2 * x + 1) * (2 * y + 1) = 2 * (2 * (x * y) + x + y) + 1 := by grind
      omega
  exact ⟨(t - B * u) / 2, (t + B * u) / 2, by omega, by omega⟩
theorem gs_mem {f : Fm} (p1 : gL (fL f) = 1) (h : dcF f < 0) (m : M4) : m ∈ gsF f ↔ Fx f m := by
  obtain ⟨A, B, C⟩ := f
  have hd : dsc A B C < 0 := h
  have d4 : dsc A B C % 4 = 0 ∨ dsc A B C % 4 = 1 := by
    unfold dsc
    rcases Int.emod_two_eq B with z | z
    · obtain ⟨x, hx⟩ : ∃ x, B = 2 * x := ⟨B / 2, by omega⟩
      refine .inl ?_
      have : B * B - 4 * A * C = 4 * (x * x - A * C) := by rw [hx]; grind
      omega
    · obtain ⟨x, hx⟩ : ∃ x, B = 2 * x + 1 := ⟨B / 2, by omega⟩
      refine .inr ?_
      have : B * B - 4 * A * C = 4 * (x * x + x - A * C) + 1 := by rw [hx]; grind
      omega
  constructor
  · intro hm
    obtain ⟨⟨t, u⟩, hu, rfl⟩ := List.mem_map.mp hm
    have e := un_eq hu
    have e : t * t = dsc A B C * (u * u) + 4 := e
    obtain ⟨x, y, hx, hy⟩ := un_par e
    dsimp only
    rw [hx, hy, Int.mul_ediv_cancel_left _ (by decide), Int.mul_ediv_cancel_left _ (by decide)]
    have xy : x * y = 1 - A * C * (u * u) := by
      unfold dsc at e
      have : 4 * (x * y) = 4 * (1 - A * C * (u * u)) := by grind
      omega
    have bu : y = x + B * u := by omega
    refine ⟨by unfold detM; dsimp only; grind, ?_⟩
    subst bu
    unfold actM actF fA fB
    refine Prod.ext ?_ (Prod.ext ?_ ?_)
    · dsimp only
      have : A * x * x + B * x * (A * u) + C * (A * u) * (A * u) = A * (x * (x + B * u) + A * C * (u * u)) := by grind
      rw [this, xy]
      grind
    · dsimp only
      have k : x * (x + B * u) = 1 - A * C * (u * u) := xy
      grind
    · dsimp only
      have k : x * (x + B * u) = 1 - A * C * (u * u) := xy
      grind
  · rintro ⟨dm, e⟩
    obtain ⟨p, q, r, s⟩ := m
    have dm : p * s - q * r = 1 := dm
    obtain ⟨t, u, h1, h2, h3, h4, h5⟩ := fix_unit (a := A) (b := B) (c := C) p1 dm (congrArg (fun f : Fm => f.1) e) (congrArg (fun f : Fm => f.2.1) e) (congrArg (fun f : Fm => f.2.2) e)
    refine List.mem_map.mpr ⟨(t, u), unit_def (d := dsc A B C) h5 (by omega) d4, ?_⟩
    dsimp only
    rw [← h1, ← h4, Int.mul_ediv_cancel_left _ (by decide), Int.mul_ediv_cancel_left _ (by decide), ← h2, ← h3]
theorem gs_nodup {f : Fm} (a0 : f.1 ≠ 0) : (gsF f).Nodup := by
  have nd : (unitsL (dcF f)).Nodup := by
    unfold unitsL
    split
    · decide
    · split <;> decide
  refine List.pairwise_map.mpr (nd.imp_of_mem fun {x y} hx hy hn e => hn ?_)
  obtain ⟨t, u⟩ := x
  obtain ⟨t', u'⟩ := y
  injection e with e1 e2
  injection e2 with e2 e3
  injection e3 with e3 e4
  dsimp only at e1 e3 e4
  have eu : u = u' := Int.eq_of_mul_eq_mul_left a0 e3
  subst eu
  obtain ⟨a, b, hx1, hx2⟩ := un_par (A := f.1) (B := f.2.1) (C := f.2.2) (un_eq hx)
  obtain ⟨c, d, hy1, hy2⟩ := un_par (A := f.1) (B := f.2.1) (C := f.2.2) (un_eq hy)
  rw [hx1, hy1, Int.mul_ediv_cancel_left _ (by decide), Int.mul_ediv_cancel_left _ (by decide)] at e1
  rw [show t = t' by omega]
theorem gs_len (f : Fm) : (gsF f).length ≤ 6 := by
  unfold gsF unitsL
  rw [List.length_map]
  split
  · decide
  · split <;> decide
theorem selfL_gs {g A B C : Int} (g0 : 0 < g) (gl : gL [g * A, g * B, g * C] = g) : selfL (g * A) (g * B) (g * C) = (gsF (A, B, C)).map mL := by
  unfold selfL gsF
  rw [gl, Int.mul_fdiv_cancel_left _ (by omega), Int.mul_fdiv_cancel_left _ (by omega), Int.mul_fdiv_cancel_left _ (by omega), List.map_map]
  rfl
/-- the points to which these matrices carry points -/
def orbL (ms : List M4) (pts : List (Int × Int)) : List (Int × Int) := pts.flatMap fun p => ms.map fun m => apM m p
theorem orb_mem {f : Fm} {n : Int} {ms : List M4} {pts : List (Int × Int)} (hm : ∀ m, m ∈ ms ↔ Fx f m) (F : FPs f n pts) (v : Int × Int) : v ∈ orbL ms pts ↔ vF f v = n := by
  unfold orbL
  rw [List.mem_flatMap]
  constructor
  · rintro ⟨p, hp, h⟩
    obtain ⟨m, hm', rfl⟩ := List.mem_map.mp h
    rw [((hm m).mp hm').val]
    exact F.val p hp
  · intro e
    obtain ⟨p, hp, s, hs, rfl⟩ := F.all v e
    exact ⟨p, hp, List.mem_map.mpr ⟨s, (hm s).mpr hs, rfl⟩⟩
theorem ap_eq {f : Fm} {s t : M4} {p q : Int × Int} (hs : Fx f s) (ht : Fx f t) (e : apM s p = apM t q) : Fx f (mx (adjM t) s) ∧ apM (mx (adjM t) s) p = q := by
  refine ⟨ht.inv.mul hs, ?_⟩
  rw [ap_mx, e, ← ap_mx, adj_mx ht.1, ap_one]
theorem orb_nodup {f : Fm} {n : Int} {ms : List M4} (hm : ∀ m, m ∈ ms ↔ Fx f m) (nd : ms.Nodup) : ∀ {pts : List (Int × Int)}, (pts.Pairwise fun p q => ∀ s, Fx f s → apM s p ≠ q) → (∀ p ∈ pts, ∀ s, Fx f s → apM s p = p → s = (1, 0, 0, 1)) → (orbL ms pts).Nodup
  | [], _, _ => .nil
  | p :: pts, h1, h2 => by
    unfold orbL
    rw [List.flatMap_cons]
    have nd1 : (ms.map fun m => apM m p).Nodup := by
      refine List.pairwise_map.mpr (nd.imp_of_mem fun {s t} hs ht hn e => hn ?_)
      obtain ⟨F9, e9⟩ := ap_eq ((hm s).mp hs) ((hm t).mp ht) e
      have e8 := h2 p List.mem_cons_self _ F9 e9
      have e7 : mx t (mx (adjM t) s) = mx t (1, 0, 0, 1) := by rw [e8]
      rw [← mx_assoc, mx_adj ((hm t).mp ht).1, one_mx, mx_one] at e7
      exact e7
    refine List.nodup_append.mpr ⟨nd1, orb_nodup (n := n) hm nd (List.pairwise_cons.mp h1).2 fun q hq => h2 q (List.mem_cons_of_mem _ hq), fun x hx y hy z => ?_⟩
    obtain ⟨s, hs, rfl⟩ := List.mem_map.mp hx
    obtain ⟨q, hq, hy⟩ := List.mem_flatMap.mp hy
    obtain ⟨t, ht, rfl⟩ := List.mem_map.mp hy
    obtain ⟨F9, e9⟩ := ap_eq ((hm s).mp hs) ((hm t).mp ht) z
    exact (List.pairwise_cons.mp h1).1 q hq _ F9 e9
theorem Pd.atx {H : Hp} : ∀ {vs : List V} {ps : List (Int × Int)} {i : Nat} {x : V}, Pd H vs ps → vs[i]? = some x → ∃ a p, x = .ref a ∧ ps[i]? = some p ∧ H a = some (.tup [.int p.1, .int p.2])
  | _, _, _, _, .nil, h => by cases h
  | _, _, 0, x, .cons (a := a) (p := p) s t, h => by
    cases h
    exact ⟨a, p, rfl, rfl, s⟩
  | _, _, i + 1, x, .cons s t, h => Pd.atx (i := i) t h
theorem orb_len (ms : List M4) : ∀ pts : List (Int × Int), (orbL ms pts).length = pts.length * ms.length
  | [] => by rw [List.length_nil, Nat.zero_mul]; rfl
  | p :: pts => by
    unfold orbL
    rw [List.flatMap_cons, List.length_append, List.length_map, List.length_cons, Nat.succ_mul, Nat.add_comm]
    have := orb_len ms pts
    unfold orbL at this
    rw [this]
theorem sq_times {g r D : Int} (g0 : 0 < g) (e : r * r = g * g * D) : ∃ q, r = g * q := by
  have n0 : 0 < Nat.gcd r.natAbs g.natAbs := Nat.gcd_pos_of_pos_right _ (by omega)
  obtain ⟨a, ha⟩ := Nat.gcd_dvd_left r.natAbs g.natAbs
  obtain ⟨b, hb⟩ := Nat.gcd_dvd_right r.natAbs g.natAbs
  have co : Nat.gcd a b = 1 := by
    have h := Nat.gcd_mul_left (Nat.gcd r.natAbs g.natAbs) a b
    rw [← ha, ← hb] at h
    exact Nat.eq_of_mul_eq_mul_left n0 (by rw [Nat.mul_one]; exact h.symm)
  have e2 : r.natAbs * r.natAbs = g.natAbs * g.natAbs * D.natAbs := by
    rw [← Int.natAbs_mul, ← Int.natAbs_mul, ← Int.natAbs_mul, e]
  generalize Nat.gcd r.natAbs g.natAbs = h at *
  have e3 : a * a = b * b * D.natAbs := by
    rw [ha, hb] at e2
    refine Nat.eq_of_mul_eq_mul_left (Nat.mul_pos n0 n0) ?_
    grind
  have d1 : b ∣ a * a := ⟨b * D.natAbs, by rw [e3, Nat.mul_assoc]⟩
  have d2 : b ∣ a := Nat.Coprime.dvd_of_dvd_mul_left (show Nat.Coprime b a by rw [Nat.Coprime, Nat.gcd_comm]; exact co) d1
  have d3 : g.natAbs ∣ r.natAbs := by
    rw [ha, hb]
    exact Nat.mul_dvd_mul_left h d2
  obtain ⟨q, hq⟩ := Int.natAbs_dvd_natAbs.mp d3
  exact ⟨q, hq⟩
theorem kind_sc {g : Int} {f : Fm} (g0 : 0 < g) (N : Ns f) : ¬ kindS (dsc (g * f.1) (g * f.2.1) (g * f.2.2)) = "split" := by
  have ed : dsc (g * f.1) (g * f.2.1) (g * f.2.2) = g * g * dcF f := by
    unfold dcF dsc
    grind
  have gg : 0 < g * g := Int.mul_pos g0 g0
  rw [ed]
  unfold Ns at N
  unfold kindS
  by_cases h : dcF f < 0
  · rw [if_pos (Int.mul_neg_of_pos_of_neg gg h)]
    decide
  · rw [srt_i h] at N
    obtain ⟨F, _⟩ := N
    have d0 := F.d0
    have p : 0 < g * g * dcF f := Int.mul_pos gg d0
    rw [if_neg (by omega), if_neg (by omega), if_neg ?_]
    · decide
    · intro e
      obtain ⟨x, y, z⟩ := rootI_spec (n := g * g * dcF f) (Int.le_of_lt p)
      obtain ⟨q, hq⟩ := sq_times g0 e
      have e2 : q * q = dcF f := by
        rw [hq] at e
        refine Int.eq_of_mul_eq_mul_left (show g * g ≠ 0 by omega) ?_
        rw [← e]
        grind
      exact root_no F.ns (Int.le_of_lt d0) e2
theorem Pd.appx {H : Hp} : ∀ {vs ws : List V} {ps qs : List (Int × Int)}, Pd H vs ps → Pd H ws qs → Pd H (vs ++ ws) (ps ++ qs)
  | _, _, _, _, .nil, h => h
  | _, _, _, _, .cons s t, h => .cons s (Pd.appx t h)
theorem prs_pd {H : Hp} : ∀ {as : List Addr} {ps : List (Int × Int)}, Prs H as ps → Pd H (as.map V.ref) ps
  | _, _, .nil => .nil
  | _, _, .cons e t => .cons e (prs_pd t)
/-- lists that ascend by a key and hold the same are the same -/
theorem key_ext {α : Type} (k : α → Int) : ∀ {l m : List α}, l.Pairwise (fun a b => k a < k b) → m.Pairwise (fun a b => k a < k b) → (∀ x, x ∈ l ↔ x ∈ m) → l = m
  | [], [], _, _, _ => rfl
  | [], b :: m, _, _, h => absurd ((h b).mpr List.mem_cons_self) List.not_mem_nil
  | a :: l, [], _, _, h => absurd ((h a).mp List.mem_cons_self) List.not_mem_nil
  | a :: l, b :: m, h1, h2, h => by
    obtain ⟨a1, a2⟩ := List.pairwise_cons.mp h1
    obtain ⟨b1, b2⟩ := List.pairwise_cons.mp h2
    have e : a = b := by
      rcases List.mem_cons.mp ((h a).mp List.mem_cons_self) with z | z
      · exact z
      · rcases List.mem_cons.mp ((h b).mpr List.mem_cons_self) with y | y
        · exact y.symm
        · have := a1 b y
          have := b1 a z
          omega
    subst e
    rw [key_ext k a2 b2 fun x => ⟨fun hx => ?_, fun hx => ?_⟩]
    · rcases List.mem_cons.mp ((h x).mp (List.mem_cons_of_mem _ hx)) with z | z
      · rw [z] at hx
        have := a1 a hx
        omega
      · exact z
    · rcases List.mem_cons.mp ((h x).mpr (List.mem_cons_of_mem _ hx)) with z | z
      · rw [z] at hx
        have := b1 a hx
        omega
      · exact z
structure NumOk (n : Int) : Prop where
  n0 : n ≠ 0
  nb : n.natAbs ≤ 100000
  sq : ∃ l, SqOk n.natAbs l
  rt : ∀ s k : Int, 0 < s → n = s * s * k → ∃ l, FacOk (4 * k.natAbs) l
theorem Ns.dc {f : Fm} (N : Ns f) : (dcF f).natAbs ≤ 10000 := by
  unfold Ns at N
  by_cases h : dcF f < 0
  · rw [srt_d h] at N
    have := N.2.e1
    omega
  · rw [srt_i h] at N
    have := N.1.d1
    have := N.1.d0
    omega
theorem rt_small {d k : Int} {h : Fm} (R : Rt d k h) (k0 : k ≠ 0) (hk : k.natAbs ≤ 100000) (hd : d.natAbs ≤ 10000) : SmG h := by
  obtain ⟨a, b, c⟩ := h
  obtain ⟨r1, r2, r3, r4⟩ := R
  dsimp only at r1 r2 r3 r4
  subst r1
  have h1 : b * b ≤ 200000 * 200000 := Int.mul_le_mul (by omega) (by omega) (by omega) (by omega)
  have h2 : 0 ≤ b * b := sqn b
  unfold dsc at r4
  have e : 4 * a * c = b * b - d := by omega
  have h3 : c.natAbs ≤ (4 * a * c).natAbs := by
    rw [Int.natAbs_mul]
    exact Nat.le_mul_of_pos_left _ (by omega)
  refine ⟨by show a.natAbs ≤ _; omega, by show b.natAbs ≤ _; omega, ?_⟩
  show c.natAbs ≤ _
  rw [e] at h3
  omega
theorem pT_bd {f : Fm} {d n : Int} {t : Tr} (g : Good f d n t) (b : BdM 54200 t.2.2) (n0 : n ≠ 0) (hn : n.natAbs ≤ 100000) : Bd 54300 (pT t).1 ∧ Bd 54300 (pT t).2 := by
  obtain ⟨t0, ⟨k, hk, _⟩, _, _⟩ := g
  have k1 : k ≠ 0 := fun z => n0 (by rw [hk, z, Int.mul_zero])
  have h1 : t.1.natAbs ≤ n.natAbs := by
    rw [hk, Int.natAbs_mul, Int.natAbs_mul]
    have h1 : 0 < k.natAbs := by omega
    have h2 : 0 < t.1.natAbs := by omega
    exact Nat.le_trans (Nat.le_mul_of_pos_left _ h2) (Nat.le_mul_of_pos_right _ h1)
  have bs : Bd 20 t.1 := Nat.lt_of_le_of_lt (show t.1.natAbs ≤ 1000000 by omega) (by decide)
  unfold pT
  rw [ap_side]
  exact ⟨(bs.mul b.1).mono (by decide), (bs.mul b.2.2.1).mono (by decide)⟩
structure FrOk (f0 : Fm) (g n : Int) : Prop where
  g0 : 0 < g
  g1 : g ≤ 1000000
  gl : gL (fL (scF g f0)) = g
  p1 : gL (fL f0) = 1
  ns : Ns f0
  b1 : f0.1.natAbs ≤ 1000000
  b2 : f0.2.1.natAbs ≤ 1000000
  b3 : f0.2.2.natAbs ≤ 1000000
  n0 : n ≠ 0
  nb : n.natAbs ≤ 1000000000
  num : g ∣ n → NumOk (n.fdiv g)
/-- a form that a matrix leads to -/
noncomputable def alB (f : Fm) (c : Int × Fm) : Bool := @decide (∃ m, detM m = 1 ∧ c.2 = actM f m) (Classical.propDecidable _)
/-- what the walk has found -/
structure TrI (f : Fm) (d n : Int) (cs : List (Int × Fm)) (ts : List Tr) : Prop where
  good : ∀ t ∈ ts, Good f d n t ∧ BdM 54200 t.2.2
  same : ts.map (fun t => (t.1, t.2.1)) = cs.filter (alB f)
theorem TrI.nil (f : Fm) (d n : Int) : TrI f d n [] [] := ⟨fun t h => absurd h List.not_mem_nil, rfl⟩
theorem TrI.yes {f : Fm} {d n : Int} {cs : List (Int × Fm)} {ts : List Tr} (I : TrI f d n cs ts) {t : Tr} (g : Good f d n t) (b : BdM 54200 t.2.2) : TrI f d n (cs ++ [(t.1, t.2.1)]) (ts ++ [t]) := by
  refine ⟨fun u hu => ?_, ?_⟩
  · rcases List.mem_append.mp hu with h | h
    · exact I.good u h
    · rw [List.mem_singleton.mp h]
      exact ⟨g, b⟩
  · have e : alB f (t.1, t.2.1) = true := by
      unfold alB
      exact @decide_eq_true _ (Classical.propDecidable _) ⟨t.2.2, g.2.2.1, g.2.2.2⟩
    rw [List.map_append, I.same, List.filter_append, List.filter_cons_of_pos e]
    rfl
theorem TrI.no {f : Fm} {d n : Int} {cs : List (Int × Fm)} {ts : List Tr} (I : TrI f d n cs ts) {c : Int × Fm} (h : ∀ m, detM m = 1 → c.2 ≠ actM f m) : TrI f d n (cs ++ [c]) ts := by
  refine ⟨I.good, ?_⟩
  have e : alB f c = false := by
    unfold alB
    exact @decide_eq_false _ (Classical.propDecidable _) fun ⟨m, dm, em⟩ => h m dm em
  rw [I.same, List.filter_append, List.filter_cons_of_neg (by rw [e]; decide), List.filter_nil, List.append_nil]
theorem TrI.len {f : Fm} {d n : Int} {cs : List (Int × Fm)} {ts : List Tr} (I : TrI f d n cs ts) : ts.length ≤ cs.length := by
  have h : ts.length = (cs.filter (alB f)).length := by rw [← I.same, List.length_map]
  rw [h]
  exact List.length_filter_le _ _
/-- the combinations of these sides with their rooted forms -/
def CsI (d n : Int) (ss : List Int) (cs : List (Int × Fm)) : Prop := cs.Nodup ∧ (∀ c, c ∈ cs ↔ c.1 ∈ ss ∧ ∃ k, n = c.1 * c.1 * k ∧ Rt d k c.2) ∧ cs.length ≤ ss.length * (2 * n.natAbs)
theorem CsI.nil (d n : Int) : CsI d n [] [] := ⟨.nil, fun c => ⟨fun h => absurd h List.not_mem_nil, fun h => absurd h.1 List.not_mem_nil⟩, Nat.zero_le _⟩
theorem CsI.next {d n : Int} {ss : List Int} {cs : List (Int × Fm)} (I : CsI d n ss cs) {s k : Int} (s0 : 0 < s) (n0 : n ≠ 0) (hs : s ∉ ss) (e : n = s * s * k) {rs : List Fm} (hr : ∀ h, h ∈ rs ↔ Rt d k h) (nd : rs.Nodup) (hl : rs.length ≤ 2 * k.natAbs) : CsI d n (ss ++ [s]) (cs ++ rs.map fun h => (s, h)) := by
  obtain ⟨i1, i2, i3⟩ := I
  have aa : s * s ≠ 0 := Int.mul_ne_zero (by omega) (by omega)
  refine ⟨?_, fun c => ?_, ?_⟩
  · refine List.nodup_append.mpr ⟨i1, List.pairwise_map.mpr (nd.imp fun h z => by injection z with _ z; exact h z), fun x hx y hy z => ?_⟩
    obtain ⟨h, _, rfl⟩ := List.mem_map.mp hy
    rw [z] at hx
    exact hs ((i2 _).mp hx).1
  · rw [List.mem_append, List.mem_append, List.mem_singleton, i2]
    constructor
    · rintro (⟨h1, h2⟩ | h)
      · exact ⟨.inl h1, h2⟩
      · obtain ⟨h9, hh, rfl⟩ := List.mem_map.mp h
        exact ⟨.inr rfl, k, e, (hr h9).mp hh⟩
    · rintro ⟨h1 | h1, k2, e2, h2⟩
      · exact .inl ⟨h1, k2, e2, h2⟩
      · obtain ⟨c1, c2⟩ := c
        dsimp only at h1 e2 h2
        subst h1
        obtain rfl : k2 = k := Int.eq_of_mul_eq_mul_left aa (by rw [← e2, ← e])
        exact .inr (List.mem_map.mpr ⟨c2, (hr c2).mpr h2, rfl⟩)
  · rw [List.length_append, List.length_append, List.length_map, List.length_singleton, Nat.add_mul, Nat.one_mul]
    have kn : k.natAbs ≤ n.natAbs := by
      rw [e, Int.natAbs_mul]
      have : 0 < (s * s).natAbs := by omega
      exact Nat.le_mul_of_pos_left _ this
    omega
theorem fps_end {f : Fm} {d n : Int} {ss : List Int} {cs : List (Int × Fm)} {ts : List Tr} (n0 : n ≠ 0) (fd : dsc f.1 f.2.1 f.2.2 = d) (I : CsI d n ss cs) (J : TrI f d n cs ts) (hs : ∀ s, s ∈ ss ↔ 0 < s ∧ s * s ∣ n) : FPs f n (ts.map pT) := by
  obtain ⟨i1, i2, _⟩ := I
  refine fps_of n0 fd (fun t h => (J.good t h).1) (fun s k h m s0 e R dm em => ?_) ?_
  · have hc : (s, h) ∈ cs := (i2 _).mpr ⟨(hs s).mpr ⟨s0, k, e⟩, k, e, R⟩
    have ha : alB f (s, h) = true := by
      unfold alB
      exact @decide_eq_true _ (Classical.propDecidable _) ⟨m, dm, em⟩
    have hf : (s, h) ∈ ts.map (fun t => (t.1, t.2.1)) := by
      rw [J.same]
      exact List.mem_filter.mpr ⟨hc, ha⟩
    obtain ⟨t, ht, e9⟩ := List.mem_map.mp hf
    injection e9 with e1 e2
    exact ⟨t, ht, e1, e2⟩
  · have nd : (ts.map fun t => (t.1, t.2.1)).Nodup := by
      rw [J.same]
      exact i1.filter _
    exact (List.pairwise_map.mp nd).imp fun h ⟨z1, z2⟩ => h (Prod.ext z1 z2)
namespace R
section
variable {K : PySem.W.Frag} {σ : L2.St} {H : Hp} {Q : VK} {g : TG} {tt : TT} {te : TE} {vs : List Nat}
theorem app2 {l : Addr} {xs : List V} {y : V} (h : H l = some (.lst xs)) (z : xs.length ≤ 16000000) (q : ∀ H', H' = upd H l (.lst (xs ++ [y])) → H' l = some (.lst (xs ++ [y])) → Q .non H') : rAppend (.ref l) [y] H Q :=
  ⟨l, xs, y, rfl, rfl, h, Nat.lt_of_le_of_lt z (by decide), q _ rfl upd_same⟩
/-- [.. for x in list], a new pair each -/
theorem lcPr {a : Addr} {xs : List V} (f : Nat → Int × Int) (hl : xs.length ≤ 4000000) (hT : SqL K H a xs)
    (hs : ∀ (i : Nat) (x : V) (H' : Hp) (Q' : VK), xs[i]? = some x → Same H H' → (∀ H2 p, Same H' H2 → H2 p = some (.tup [.int (f i).1, .int (f i).2]) → Q' (.ref p) H2) → g x (wipe σ vs) H' fun σ2 H2 => wipe σ2 vs = wipe σ vs ∧ te σ2 H2 Q')
    (hq : ∀ H' D as, H' D = some (.lst (as.map V.ref)) → Prs H' as ((List.range xs.length).map f) → Same H H' → H D = none → Q (.ref D) H') : LcJ (Itl K a) g tYes te vs σ H Q := by
  intro D nD
  refine lc_list (K := K) (a := a) (xs := xs) (fun i H' => ∃ as, H' D = some (.lst (as.map V.ref)) ∧ Prs H' as ((List.range i).map f) ∧ Same H H') ⟨[], upd_same, .nil, same_upd nD⟩ (fun i H' _ h => h.choose_spec.2.2.seq hT) (fun i x H5 hx ⟨as, h1, h3, h5⟩ => ?_) (fun H5 ⟨as, h1, h3, h5⟩ => hq H5 D as h1 h3 h5 nD)
  have hi : i < xs.length := (List.getElem?_eq_some_iff.mp hx).1
  have h2 := h3.len
  rw [List.length_map, List.length_range] at h2
  refine hs i x H5 _ hx h5 (fun H2 p s2 sp => ⟨as.map V.ref, s2 _ _ h1, ?_, as ++ [p], ?_, ?_, same_mut (h5.trans s2) nD⟩)
  · rw [List.length_map, h2]
    have : (4000000 : Nat) < sizeLine := by decide
    omega
  · rw [upd_same, List.map_append]
    rfl
  · rw [List.range_succ, List.map_append]
    refine ((h3.same s2).mono fun b zs e => ?_).snoc ?_
    · rw [upd_ne (ne_of e (s2 _ _ h1) (by intro z; cases z))]
      exact e
    · rw [upd_ne (ne_of sp (s2 _ _ h1) (by intro z; cases z))]
      exact sp
/-- [.. for x in list], a new tuple each -/
theorem lcTn {a : Addr} {xs : List V} (f : Nat → List Int) (hl : xs.length ≤ 4000000) (hT : SqL K H a xs)
    (hs : ∀ (i : Nat) (x : V) (H' : Hp) (Q' : VK), xs[i]? = some x → Same H H' → (∀ H2 p, Same H' H2 → SqT K H2 p ((f i).map V.int) → Q' (.ref p) H2) → g x (wipe σ vs) H' fun σ2 H2 => wipe σ2 vs = wipe σ vs ∧ te σ2 H2 Q')
    (hq : ∀ H' D ys, H' D = some (.lst ys) → Tps K H' ys ((List.range xs.length).map f) → Same H H' → H D = none → Q (.ref D) H') : LcJ (Itl K a) g tYes te vs σ H Q := by
  intro D nD
  refine lc_list (K := K) (a := a) (xs := xs) (fun i H' => ∃ ys, H' D = some (.lst ys) ∧ Tps K H' ys ((List.range i).map f) ∧ Same H H') ⟨[], upd_same, .nil, same_upd nD⟩ (fun i H' _ h => h.choose_spec.2.2.seq hT) (fun i x H5 hx ⟨ys, h1, h3, h5⟩ => ?_) (fun H5 ⟨ys, h1, h3, h5⟩ => hq H5 D ys h1 h3 h5 nD)
  have hi : i < xs.length := (List.getElem?_eq_some_iff.mp hx).1
  have h2 := h3.len
  rw [List.length_map, List.length_range] at h2
  refine hs i x H5 _ hx h5 (fun H2 p s2 sp => ⟨ys, s2 _ _ h1, ?_, ys ++ [.ref p], upd_same, ?_, same_mut (h5.trans s2) nD⟩)
  · rw [h2]
    have : (4000000 : Nat) < sizeLine := by decide
    omega
  · rw [List.range_succ, List.map_append]
    exact ((h3.same s2).kt fun c zs h => upd_seqT (s2 _ _ h1) h).snoc (upd_seqT (s2 _ _ h1) sp)
theorem notInB {q : Addr} {b : Bool} (h2 : SqL K H q [.bl b]) (h : Q (.bl false) H) : rIn K true (.bl b) (.ref q) H Q := by
  refine ⟨q, [.bl b], rfl, .inl h2, rfl, by cases b <;> rfl, ?_⟩
  have e : inV (.bl b) [.bl b] = true := by cases b <;> decide
  show Q (.bl (!inV (.bl b) [.bl b])) H
  rw [e]
  exact h
/-- [.. for k in range(n) if ..], a new tuple each -/
theorem lcRT {n : Nat} (p : Nat → Bool) (f : Nat → List Int) (hl : n ≤ 4000000)
    (hs : ∀ (i : Nat) (H' : Hp) (C : V → Hp → Prop) (E : Hp → Prop), i < n → Same H H' → (p i = true → ∀ H2 q, Same H' H2 → SqT K H2 q ((f i).map V.int) → C (.ref q) H2) → (p i = false → ∀ H2, Same H' H2 → E H2) → g (.int (0 + (i : Int))) (wipe σ vs) H' fun σ2 H2 => wipe σ2 vs = wipe σ vs ∧ tt σ2 H2 fun k H3 => if k = true then te σ2 H3 C else E H3)
    (hq : ∀ H' D ys, H' D = some (.lst ys) → Tps K H' ys (((List.range n).filter p).map f) → Same H H' → H D = none → Q (.ref D) H') : LcJ (Itr 0 n) g tt te vs σ H Q := by
  intro D nD
  refine lc_range (lo := 0) (n := n) (fun i H' => ∃ ys, H' D = some (.lst ys) ∧ Tps K H' ys (((List.range i).filter p).map f) ∧ Same H H') ⟨[], upd_same, .nil, same_upd nD⟩ (fun i H5 hi ⟨ys, h1, h3, h5⟩ => ?_) (fun H5 ⟨ys, h1, h3, h5⟩ => hq H5 D ys h1 h3 h5 nD)
  have h2 := h3.len
  rw [List.length_map] at h2
  have h4 := List.length_filter_le p (List.range i)
  rw [List.length_range] at h4
  refine hs i H5 _ _ hi h5 (fun e H2 q s2 sq => ⟨ys, s2 _ _ h1, ?_, ys ++ [.ref q], upd_same, ?_, same_mut (h5.trans s2) nD⟩) (fun e H2 s2 => ⟨ys, s2 _ _ h1, ?_, h5.trans s2⟩)
  · have : (4000000 : Nat) < sizeLine := by decide
    omega
  · rw [List.range_succ, List.filter_append, List.filter_cons_of_pos (by exact e), List.map_append]
    exact ((h3.same s2).kt fun c zs h => upd_seqT (s2 _ _ h1) h).snoc (upd_seqT (s2 _ _ h1) sq)
  · rw [List.range_succ, List.filter_append, List.filter_cons_of_neg (by rw [e]; decide), List.filter_nil, List.append_nil]
    exact h3.same s2
/-- [b for b in ints if ..] -/
theorem lcFs {a : Addr} {ns : List Int} (p : Int → Bool) (hl : ns.length ≤ 4000000) (hT : SqL K H a (ns.map V.int))
    (hs : ∀ n H' (C : V → Hp → Prop) (E : Hp → Prop), n ∈ ns → Same H H' → (p n = true → C (.int n) H') → (p n = false → E H') → g (.int n) (wipe σ vs) H' fun σ2 H2 => wipe σ2 vs = wipe σ vs ∧ tt σ2 H2 fun k H3 => if k = true then te σ2 H3 C else E H3)
    (hq : ∀ H' D, H' D = some (.lst ((ns.filter p).map V.int)) → Same H H' → H D = none → Q (.ref D) H') : LcJ (Itl K a) g tt te vs σ H Q := by
  intro D nD
  refine lc_list (K := K) (a := a) (xs := ns.map V.int) (fun i H' => H' D = some (.lst (((ns.take i).filter p).map V.int)) ∧ Same H H') ⟨upd_same, same_upd nD⟩ (fun i H' _ h => h.2.seq hT) (fun i x H5 hx ⟨h1, h5⟩ => ?_) (fun H5 ⟨h1, h5⟩ => ?_)
  · rw [List.getElem?_map] at hx
    cases hn : ns[i]? with
    | none =>
      rw [hn] at hx
      cases hx
    | some n =>
      rw [hn] at hx
      cases hx
      have hi := (List.getElem?_eq_some_iff.mp hn).1
      refine hs n H5 _ _ (List.mem_of_getElem? hn) h5 (fun e => ⟨_, h1, ?_, ?_, same_mut h5 nD⟩) (fun e => ⟨?_, h5⟩)
      · rw [List.length_map]
        have := List.length_filter_le p (ns.take i)
        rw [List.length_take] at this
        have : (4000000 : Nat) < sizeLine := by decide
        omega
      · rw [upd_same, List.take_add_one, hn, Option.toList_some, List.filter_append, List.filter_cons_of_pos (by exact e), List.map_append]
        rfl
      · rw [List.take_add_one, hn, Option.toList_some, List.filter_append, List.filter_cons_of_neg (by rw [e]; decide), List.filter_nil, List.append_nil]
        exact h1
  · rw [List.length_map, List.take_length] at h1
    exact hq H5 D h1 h5 nD
end
end R

/-! ### numbers up to 500 -/
def sqB (N : Nat) : Bool := match ppM N with
  | none => false
  | some l => (l.all fun x => x.1.blt 1000 && x.2.blt 20) && (l.length.ble 100 && ((prdL (hvL l)).length.ble 20 && (((List.range (l.length + 1)).all fun i => (prdL ((hvL l).take i)).length.blt 1000 && (prdL ((hvL l).take i)).all fun g => g.natAbs.blt 1000) && (decide (prdL (hvL l)).Nodup &&
    (((prdL (hvL l)).all fun g => decide (0 < g) && (N % (g.natAbs * g.natAbs)).beq 0) && ((List.range 23).all fun d => d.beq 0 || !(N % (d * d)).beq 0 || (prdL (hvL l)).contains (d : Int)))))))
def numT (lo n : Nat) : Bool := (List.range n).all fun i => (lo + i).beq 0 || (sqB (lo + i) && facT (4 * (lo + i)))
theorem num_0 : numT 0 100 = true := by decide +kernel
theorem num_1 : numT 100 100 = true := by decide +kernel
theorem num_2 : numT 200 100 = true := by decide +kernel
theorem num_3 : numT 300 100 = true := by decide +kernel
theorem num_4 : numT 400 101 = true := by decide +kernel
theorem numT_at {lo n N : Nat} (h : numT lo n = true) (h0 : 0 < N) (h1 : lo ≤ N) (h2 : N < lo + n) : sqB N = true ∧ facT (4 * N) = true := by
  have a := List.all_eq_true.mp h (N - lo) (List.mem_range.mpr (by omega))
  rw [show lo + (N - lo) = N by omega, Bool.or_eq_true, Bool.and_eq_true] at a
  exact a.resolve_left (fun k => by have := Nat.eq_of_beq_eq_true k; omega)
theorem num_at {N : Nat} (h0 : 0 < N) (h1 : N ≤ 500) : sqB N = true ∧ facT (4 * N) = true := by
  by_cases a0 : N < 100
  · exact numT_at num_0 h0 (by omega) (by omega)
  by_cases a1 : N < 200
  · exact numT_at num_1 h0 (by omega) (by omega)
  by_cases a2 : N < 300
  · exact numT_at num_2 h0 (by omega) (by omega)
  by_cases a3 : N < 400
  · exact numT_at num_3 h0 (by omega) (by omega)
  · exact numT_at num_4 h0 (by omega) (by omega)
theorem fac_at {N : Nat} (h0 : 0 < N) (h1 : N ≤ 500) : ∃ l, FacOk (4 * N) l := facT_ok (num_at h0 h1).2
theorem sq_at {N : Nat} (h0 : 0 < N) (h1 : N ≤ 500) : ∃ l, SqOk N l := by
  have h := (num_at h0 h1).1
  unfold sqB at h
  cases hp : ppM N with
  | none =>
    rw [hp] at h
    cases h
  | some l =>
    rw [hp] at h
    dsimp only at h
    rw [Bool.and_eq_true, Bool.and_eq_true, Bool.and_eq_true, Bool.and_eq_true, Bool.and_eq_true, Bool.and_eq_true] at h
    obtain ⟨c1, c6, c7, c2, c3, c4, c5⟩ := h
    have hl : (hvL l).length = l.length := List.length_map ..
    have key : ∀ i, (prdL ((hvL l).take i)).length < 1000 ∧ ∀ g ∈ prdL ((hvL l).take i), g.natAbs < 1000 := by
      have k : ∀ i, i ≤ l.length → (prdL ((hvL l).take i)).length < 1000 ∧ ∀ g ∈ prdL ((hvL l).take i), g.natAbs < 1000 := by
        intro i hi
        have a := List.all_eq_true.mp c2 i (List.mem_range.mpr (by omega))
        rw [Bool.and_eq_true] at a
        refine ⟨Nat.le_of_ble_eq_true a.1, fun g hg => ?_⟩
        exact Nat.le_of_ble_eq_true (List.all_eq_true.mp a.2 g hg)
      intro i
      by_cases hi : i ≤ l.length
      · exact k i hi
      · have := k l.length (Nat.le_refl _)
        rw [← hl, List.take_length] at this
        rw [List.take_of_length_le (by omega)]
        exact this
    have e1 : ∀ x ∈ l, x.1 < 1000 ∧ x.2 < 20 := fun x hx => by
      have a := List.all_eq_true.mp c1 x hx
      rw [Bool.and_eq_true] at a
      exact ⟨Nat.le_of_ble_eq_true a.1, Nat.le_of_ble_eq_true a.2⟩
    have t59 : (1000 : Nat) < 2 ^ 59 := by decide
    refine ⟨l, hp, Nat.le_of_ble_eq_true c6, Nat.le_of_ble_eq_true c7, ⟨fun x hx => ?_, fun i => by have := (key i).1; omega, fun i g hg => Bd.om (by have := (key i).2 g hg; omega)⟩, of_decide_eq_true c3, fun g => ⟨fun hg => ?_, fun ⟨g0, gd⟩ => ?_⟩, fun x hx => by have := e1 x hx; omega⟩
    · obtain ⟨y, hy, rfl⟩ := List.mem_map.mp hx
      obtain ⟨a1, a2⟩ := e1 y hy
      exact ⟨Nat.lt_of_lt_of_le a1 (by decide), by show y.2 / 2 < 900; omega⟩
    · have a := List.all_eq_true.mp c4 g hg
      rw [Bool.and_eq_true] at a
      have a1 := of_decide_eq_true a.1
      have a2 := Nat.eq_of_beq_eq_true a.2
      refine ⟨a1, Int.natAbs_dvd_natAbs.mp ?_⟩
      rw [Int.natAbs_natCast, Int.natAbs_mul]
      exact Nat.dvd_of_mod_eq_zero a2
    · have gd2 := Int.natAbs_dvd_natAbs.mpr gd
      rw [Int.natAbs_natCast, Int.natAbs_mul] at gd2
      have gl := Nat.le_of_dvd h0 gd2
      have g22 : g.natAbs < 23 := by
        by_cases z : g.natAbs < 23
        · exact z
        · have := Nat.mul_le_mul (show 23 ≤ g.natAbs by omega) (show 23 ≤ g.natAbs by omega)
          omega
      have a := List.all_eq_true.mp c5 g.natAbs (List.mem_range.mpr g22)
      rw [Bool.or_eq_true, Bool.or_eq_true] at a
      rcases a with (a | a) | a
      · have := Nat.eq_of_beq_eq_true a
        omega
      · rw [Nat.mod_eq_zero_of_dvd gd2] at a
        exact absurd a (by decide)
      · rw [List.contains_iff_mem] at a
        rw [show g = (g.natAbs : Int) by omega]
        exact a
theorem num_small {N : Int} (h0 : N ≠ 0) (h1 : N.natAbs ≤ 500) : NumOk N := by
  refine ⟨h0, by omega, sq_at (by omega) h1, fun s k s0 e => ?_⟩
  have k0 : k ≠ 0 := fun z => h0 (by rw [e, z, Int.mul_zero])
  have kn : k.natAbs ≤ N.natAbs := by
    rw [e, Int.natAbs_mul]
    have ss : s * s ≠ 0 := Int.mul_ne_zero (by omega) (by omega)
    have : 0 < (s * s).natAbs := by omega
    exact Nat.le_mul_of_pos_left _ this
  exact fac_at (by omega) (by omega)
/-! ### a form and its content -/
theorem gL_tim (g x y z : Int) (h : 0 ≤ g) : gL [g * x, g * y, g * z] = g * gL [x, y, z] := by
  rw [gL_three, gL_three, Int.natAbs_mul, Int.natAbs_mul, Int.natAbs_mul, Nat.gcd_mul_left, Nat.gcd_mul_left, Int.natCast_mul]
  congr 1
  omega
/-- a form is its content times a form of content 1 -/
theorem ct_split {a b c : Int} (h : a ≠ 0) : ∃ (g : Int) (f0 : Fm), 0 < g ∧ g ≤ (a.natAbs : Int) ∧ scF g f0 = (a, b, c) ∧ gL [a, b, c] = g ∧ gL (fL f0) = 1 ∧ f0.1.natAbs ≤ a.natAbs ∧ f0.2.1.natAbs ≤ b.natAbs ∧ f0.2.2.natAbs ≤ c.natAbs := by
  have e := gL_three a b c
  have n0 : 0 < Nat.gcd (Nat.gcd a.natAbs b.natAbs) c.natAbs := Nat.gcd_pos_of_pos_left _ (Nat.gcd_pos_of_pos_left _ (by omega))
  have g0 : 0 < gL [a, b, c] := by omega
  have da : gL [a, b, c] ∣ a := by
    rw [e]
    exact Int.natAbs_dvd_natAbs.mp (by simpa using Nat.dvd_trans (Nat.gcd_dvd_left _ _) (Nat.gcd_dvd_left _ _))
  have db : gL [a, b, c] ∣ b := by
    rw [e]
    exact Int.natAbs_dvd_natAbs.mp (by simpa using Nat.dvd_trans (Nat.gcd_dvd_left _ _) (Nat.gcd_dvd_right _ _))
  have dc : gL [a, b, c] ∣ c := by
    rw [e]
    exact Int.natAbs_dvd_natAbs.mp (by simpa using Nat.gcd_dvd_right _ _)
  obtain ⟨A, hA⟩ := da
  obtain ⟨B, hB⟩ := db
  obtain ⟨C, hC⟩ := dc
  obtain ⟨g, hg⟩ : ∃ g, gL [a, b, c] = g := ⟨_, rfl⟩
  rw [hg] at hA hB hC g0
  have le : ∀ x y : Int, x = g * y → y.natAbs ≤ x.natAbs := fun x y h => by
    rw [h, Int.natAbs_mul]
    exact Nat.le_mul_of_pos_left _ (by omega)
  have A0 : A ≠ 0 := fun z => h (by rw [hA, z, Int.mul_zero])
  refine ⟨g, (A, B, C), g0, ?_, by rw [hA, hB, hC]; rfl, hg, ?_, le _ _ hA, le _ _ hB, le _ _ hC⟩
  · have : g.natAbs ≤ a.natAbs := by
      rw [hA, Int.natAbs_mul]
      exact Nat.le_mul_of_pos_right _ (by omega)
    omega
  · rw [hA, hB, hC, gL_tim _ _ _ _ (by omega)] at hg
    exact Int.eq_of_mul_eq_mul_left (show g ≠ 0 by omega) (by rw [Int.mul_one]; exact hg)

theorem ns_neg {f : Fm} (h : dcF f < 0) (e : -10000 ≤ dcF f) (a0 : f.1 ≠ 0) : Ns f := by
  unfold Ns
  rw [srt_d h]
  have hs : (sgF f = 1 ∧ 0 < f.1) ∨ (sgF f = -1 ∧ f.1 < 0) := by
    unfold sgF
    by_cases z : 0 < f.1
    · exact .inl ⟨if_pos z, z⟩
    · exact .inr ⟨if_neg z, by omega⟩
  refine ⟨hs, pf_of (sg_or hs) (show dcF f = - -dcF f by omega) (by omega) (by omega) ?_⟩
  rcases hs with ⟨z, y⟩ | ⟨z, y⟩ <;> rw [z] <;> omega
theorem fp_def {a b c : Int} (h : dsc a b c < 0) (h2 : -10000 ≤ dsc a b c) (b1 : a.natAbs ≤ 1000) (b2 : b.natAbs ≤ 1000) (b3 : c.natAbs ≤ 1000) : ∃ (g : Int) (f0 : Fm), scF g f0 = (a, b, c) ∧ dcF f0 < 0 ∧ 0 < g ∧ gL [a, b, c] = g ∧ ∀ n : Int, n ≠ 0 → n.natAbs ≤ 500 → FrOk f0 g n := by
  have a0 : a ≠ 0 := fun z => by
    rw [z] at h
    unfold dsc at h
    have := sqn b
    omega
  obtain ⟨g, f0, g0, g1, ef, gl, p1, c1, c2, c3⟩ := ct_split (b := b) (c := c) a0
  have ea : a = g * f0.1 := (congrArg (fun f : Fm => f.1) ef).symm
  have eb : b = g * f0.2.1 := (congrArg (fun f : Fm => f.2.1) ef).symm
  have ec : c = g * f0.2.2 := (congrArg (fun f : Fm => f.2.2) ef).symm
  have ed : dsc a b c = g * g * dcF f0 := by
    rw [ea, eb, ec]
    unfold dcF dsc
    grind
  have gg : 0 < g * g := Int.mul_pos g0 g0
  have d0 : dcF f0 < 0 := by
    by_cases z : dcF f0 < 0
    · exact z
    · have := Int.mul_nonneg (show 0 ≤ g * g by omega) (show 0 ≤ dcF f0 by omega)
      omega
  have d1 : -10000 ≤ dcF f0 := by
    have := Int.mul_le_mul_of_nonpos_right (show 1 ≤ g * g by omega) (show dcF f0 ≤ 0 by omega)
    omega
  have f1 : f0.1 ≠ 0 := fun z => a0 (by rw [ea, z, Int.mul_zero])
  refine ⟨g, f0, ef, d0, g0, gl, fun n n0 nb => ⟨g0, by omega, by rw [ef]; exact gl, p1, ns_neg d0 d1 f1, by omega, by omega, by omega, n0, by omega, fun dv => ?_⟩⟩
  obtain ⟨k, hk⟩ := dv
  have k0 : k ≠ 0 := fun z => n0 (by rw [hk, z, Int.mul_zero])
  have kn : k.natAbs ≤ n.natAbs := by
    rw [hk, Int.natAbs_mul]
    exact Nat.le_mul_of_pos_left _ (by omega)
  rw [hk, Int.mul_fdiv_cancel_left _ (by omega)]
  exact num_small k0 (by omega)
section
variable {P : Program} {w : World} {K : PySem.W.Frag} {mg : Str → Option Value} {base : Heap} {fa : Nat → Addr} {fd : Nat → FuncData}
set_option hygiene false
local macro_rules | `(tactic| clean_wf) => `(tactic| (repeat' (first   | with_reducible apply R.var   | with_reducible apply R.gsE   | ((with_reducible apply R.gsN); (focus exact rfl))   | with_reducible apply R.lenS   | ((with_reducible apply R.lenB); exact rfl)   | ((with_reducible apply R.isEq); exact rfl)   | with_reducible apply R.op   | with_reducible apply R.i2   | with_reducible apply R.i0   | with_reducible apply R.con   | with_reducible apply R.cons   | with_reducible apply R.nil   | ((with_reducible apply R.gBd); first | with_reducible assumption | with_reducible apply Bd.mul | with_reducible apply Bd.add | with_reducible apply Bd.sub | ((with_reducible apply Bd.l8); exact eq_true (by decide)) | ((with_reducible apply Bd.lit); exact eq_true (by decide)) | with_reducible apply Bd.neg | with_reducible apply Bd.div | with_reducible apply Bd.abs | with_reducible apply Bd.mod | with_reducible apply Bd.fdiv | ((with_reducible apply Bd.om); omega))   | with_reducible apply Bd.mulW   | ((with_reducible apply R.gSqT); first | with_reducible assumption | ((with_reducible apply SqT.of); with_reducible assumption) | ((with_reducible apply same_seqT); with_reducible assumption) | ((with_reducible apply kp_seqT); with_reducible assumption) | with_reducible apply hU)   | ((with_reducible apply R.isLe); first | decide | omega)   | with_reducible apply R.gcons   | with_reducible apply R.gname   | ((with_reducible apply R.ixT); (focus ((repeat' (first | with_reducible assumption | with_reducible apply hU | ((with_reducible apply SqT.of); with_reducible assumption) | ((with_reducible apply same_seqT); with_reducible assumption) | ((with_reducible apply kp_seqT); with_reducible assumption) | ((with_reducible apply Dw.same); with_reducible assumption))); done)); exact rfl)   | ((with_reducible apply R.ixL); (focus ((repeat' (first | with_reducible assumption | ((with_reducible apply SqL.of); with_reducible assumption) | ((with_reducible apply Same.seq); with_reducible assumption) | ((with_reducible apply Kp.seqL); with_reducible assumption) | ((with_reducible apply fresh_ne); with_reducible assumption) | ((with_reducible apply Dw.same); with_reducible assumption))); done)); exact rfl)   | with_reducible apply R.test   | with_reducible apply R.tb'   | with_reducible apply R.isbl   | with_reducible apply R.cmp   | with_reducible apply R.t2i   | with_reducible apply R.intp   | with_reducible apply R.ifs   | with_reducible apply R.asg   | with_reducible apply R.seq   | with_reducible apply R.gtup   | with_reducible apply R.u1   | with_reducible apply R.un   | with_reducible apply R.ret   | with_reducible apply R.next   | with_reducible apply R.call   | with_reducible apply iteT   | with_reducible apply iteF   | with_reducible assumption   | with_reducible apply R.tup   | with_reducible apply R.lst   | with_reducible apply R.callB   | with_reducible apply R.gnil   | with_reducible apply R.brk   | with_reducible apply R.cont   | with_reducible apply R.drop   | with_reducible apply R.par   | with_reducible apply R.par2   | with_reducible apply R.par3   | with_reducible apply R.par4   | with_reducible apply R.tif   | with_reducible apply R.and   | with_reducible apply R.or   | with_reducible apply R.not   | with_reducible apply R.andV   | with_reducible apply R.orV   | with_reducible apply R.notV   | with_reducible apply R.chain   | with_reducible apply R.tupL   | with_reducible apply R.lstL   | with_reducible apply R.cat   | with_reducible apply R.absI   | with_reducible apply R.intI   | with_reducible apply R.intB   | with_reducible apply R.eqS   | with_reducible apply R.eqBl   | with_reducible apply R.neBl   | with_reducible apply R.sl   | with_reducible apply R.noPart   | with_reducible apply R.part   | with_reducible apply R.isInt   | with_reducible apply R.slL   | with_reducible apply R.isiT   | with_reducible apply R.isiLst   | with_reducible apply R.nwT   | with_reducible apply R.nwL   | ((with_reducible apply R.mt); intro HN tn sn nn ht)   | ((with_reducible apply R.ml); intro HN tn sn nn ht)   | ((with_reducible apply R.isiTupS); focus ((repeat' (first | with_reducible assumption | with_reducible apply hU | ((with_reducible apply SqT.of); with_reducible assumption) | ((with_reducible apply same_seqT); with_reducible assumption) | ((with_reducible apply kp_seqT); with_reducible assumption) | ((with_reducible apply Dw.same); with_reducible assumption))); done))   | ((with_reducible apply R.ne4); focus ((repeat' (first | with_reducible assumption | with_reducible apply hU | ((with_reducible apply SqT.of); with_reducible assumption) | ((with_reducible apply same_seqT); with_reducible assumption) | ((with_reducible apply kp_seqT); with_reducible assumption) | ((with_reducible apply Dw.same); with_reducible assumption))); done))   | ((with_reducible apply R.ne3); focus ((repeat' (first | with_reducible assumption | with_reducible apply hU | ((with_reducible apply SqT.of); with_reducible assumption) | ((with_reducible apply same_seqT); with_reducible assumption) | ((with_reducible apply kp_seqT); with_reducible assumption) | ((with_reducible apply Dw.same); with_reducible assumption))); done))   | ((with_reducible apply R.ne2); focus ((repeat' (first | with_reducible assumption | with_reducible apply hU | ((with_reducible apply SqT.of); with_reducible assumption) | ((with_reducible apply same_seqT); with_reducible assumption) | ((with_reducible apply kp_seqT); with_reducible assumption) | ((with_reducible apply Dw.same); with_reducible assumption))); done))   | ((with_reducible apply R.eq4); focus ((repeat' (first | with_reducible assumption | with_reducible apply hU | ((with_reducible apply SqT.of); with_reducible assumption) | ((with_reducible apply same_seqT); with_reducible assumption) | ((with_reducible apply kp_seqT); with_reducible assumption) | ((with_reducible apply Dw.same); with_reducible assumption))); done))   | ((with_reducible apply R.eq3); focus ((repeat' (first | with_reducible assumption | with_reducible apply hU | ((with_reducible apply SqT.of); with_reducible assumption) | ((with_reducible apply same_seqT); with_reducible assumption) | ((with_reducible apply kp_seqT); with_reducible assumption) | ((with_reducible apply Dw.same); with_reducible assumption))); done))   | ((with_reducible apply R.eq2); focus ((repeat' (first | with_reducible assumption | with_reducible apply hU | ((with_reducible apply SqT.of); with_reducible assumption) | ((with_reducible apply same_seqT); with_reducible assumption) | ((with_reducible apply kp_seqT); with_reducible assumption) | ((with_reducible apply Dw.same); with_reducible assumption))); done))   | ((with_reducible apply R.nw); intro HN tn sn ht)   | with_reducible apply R.notT   | with_reducible apply R.notF   | ((with_reducible apply SqL.of); with_reducible assumption)   | ((with_reducible apply sameB); with_reducible assumption)   | ((with_reducible apply same_at); with_reducible assumption)   | ((with_reducible apply Same.seq); with_reducible assumption)   | ((with_reducible apply Kp.seqL); with_reducible assumption)   | ((with_reducible apply fresh_ne); with_reducible assumption)   | ((with_reducible apply Dw.same); with_reducible assumption)   | ((with_reducible apply R.isEq); exact eq_true (by first | decide | omega))   | ((with_reducible apply R.isLt); first | decide | omega)   | ((with_reducible apply R.isLtI); first | decide | omega)   | ((with_reducible apply R.isLeI); first | decide | omega)   | ((with_reducible apply R.cdiv); exact rfl)   | ((with_reducible apply R.cpow); exact rfl)   | with_reducible apply R.cdivX   | ((with_reducible apply R.isNe); omega)   | ((with_reducible apply wayNF); first | exact rfl | exact ⟨rfl, rfl⟩ | exact ⟨rfl, rfl, rfl⟩ | exact ⟨rfl, rfl, rfl, rfl⟩)   | with_reducible apply R.bm   | ((with_reducible apply R.bmT); (focus ((first | with_reducible assumption | ((with_reducible apply same_at); with_reducible assumption) | ((with_reducible apply kp_at); with_reducible assumption)); done)))   | with_reducible apply R.dput   | with_reducible apply R.dget   | with_reducible apply R.din   | with_reducible apply R.dget2   | with_reducible apply R.forE   | with_reducible apply R.rng1   | with_reducible apply R.rng2   | with_reducible apply R.rg1   | with_reducible apply R.rg2   | with_reducible apply R.lcE   | with_reducible apply R.itup   | with_reducible apply R.ilst   | with_reducible apply uLawNext   | with_reducible apply uLawChange   | with_reducible apply uMultiply   | with_reducible apply uDeterminant   | with_reducible apply uApply   | with_reducible apply uNegative   | with_reducible apply uLawAt   | with_reducible apply uLawMul   | with_reducible apply uLawWorth   | with_reducible apply uWorth   | with_reducible apply uScaled   | with_reducible apply uDiscriminant   | with_reducible apply uInverse   | with_reducible apply uAct   | with_reducible apply uLawAct   | with_reducible apply uUnitChange   | with_reducible apply uLawKind   | with_reducible apply uLawSquare   | with_reducible apply uLawRoot   | with_reducible apply uFloorRoot   | with_reducible apply uIsReducedDefinite   | with_reducible apply uStepDown   | with_reducible apply uIsReducedIndefinite   | with_reducible apply uStepOf   | with_reducible apply uStepNear   | with_reducible apply uBezout   | with_reducible apply uContent   | with_reducible apply uCycle   | with_reducible apply uKind   | with_reducible apply uIsSquare   | with_reducible apply uDivided   | fail   )))
local macro_rules | `(tactic| sizeOf_list_dec) => `(tactic| (repeat' (first | with_reducible exact Kp.refl | with_reducible assumption | ((with_reducible apply kpB); first | with_reducible assumption | ((with_reducible apply same_kp); with_reducible assumption)))))
local macro_rules | `(tactic| array_get_dec) => `(tactic| (repeat' (first | with_reducible assumption | ((with_reducible apply SqL.of); with_reducible assumption) | ((with_reducible apply Same.seq); with_reducible assumption) | ((with_reducible apply Kp.seqL); with_reducible assumption) | ((with_reducible apply fresh_ne); with_reducible assumption) | ((with_reducible apply Dw.same); with_reducible assumption))))
local macro_rules | `(tactic| simp_wf) => `(tactic| (repeat' (first | with_reducible assumption | with_reducible apply hU | ((with_reducible apply SqT.of); with_reducible assumption) | ((with_reducible apply same_seqT); with_reducible assumption) | ((with_reducible apply kp_seqT); with_reducible assumption) | ((with_reducible apply Dw.same); with_reducible assumption))))
local macro_rules | `(tactic| array_mem_dec) => `(tactic| (repeat' (first | with_reducible exact Same.refl _ | with_reducible assumption | ((with_reducible apply sameB); with_reducible assumption))))
set_option hygiene true
def spBezout (_ : PySem.W.Frag) : Sp := fun vs H Q _ => ∃ a b : Int, vs = [.int a, .int b] ∧ a.natAbs < 2 ^ 9400 ∧ b.natAbs < 2 ^ 8990 ∧
  ∀ p u v, H p = none → u * a + v * b = gI a b → u.natAbs < 2 ^ 9404 → v.natAbs < 2 ^ 9404 → Q (.ref p) (upd H p (.tup [.int (gI a b), .int u, .int v]))
theorem uBezout {K : PySem.W.Frag} {H : Hp} {Q : VK} {E : XK} {vs : List V} {a b : Int} (e : vs = [.int a, .int b]) (h1 : a.natAbs < 1152921504606846976) (h2 : b.natAbs < 1152921504606846976)
    (kk : ∀ H' p u v, Same H H' → H' p = some (.tup [.int (gI a b), .int u, .int v]) → u * a + v * b = gI a b → Bd 9404 u → Bd 9404 v → Q (.ref p) H') : spBezout K vs H Q E :=
  ⟨a, b, e, pow_up (a := 60) h1 (by decide), pow_up (a := 60) h2 (by decide), fun p u v n e1 b1 b2 => kk _ p u v (same_upd n) upd_same e1 b1 b2⟩
theorem okBezout (T : Txt K mg fa fd) : FnOk P w K mg base CX0 1 (fa 0) (fd 0) ["a", "b"] (spBezout K) := by
  refine T.F_bezout.ok scBezout (fun vs H Q E h => ?_) (fun cdv A outer s H vs Q E hr h => ?_)
  · obtain ⟨a, b, rfl, ha, hb, q⟩ := h
    rfl
  · obtain ⟨a, b, rfl, ha, hb, q⟩ := h
    refine ⟨_, (pss_cons (ps_par3 (i := 2) (j := 3) (l := 4) (by rfl) scBezout.nd rfl rfl rfl (by decide) (by decide) (by decide) rfl rfl rfl (pa_cons (pv 0) (pa_cons pe_int (pa_cons pe_int pa_nil))) (by rfl))
      (pss_cons (ps_par3 (i := 5) (j := 6) (l := 7) (by rfl) scBezout.nd rfl rfl rfl (by decide) (by decide) (by decide) rfl rfl rfl (pa_cons (pv 1) (pa_cons pe_int (pa_cons pe_int pa_nil))) (by rfl))
      (pss_cons (ps_while PassesOwn.never (pt_cmp (pc_neI (pv 5) pe_int))
      (pss_cons (ps_set (i := 8) scBezout.nd rfl (Or.inl rfl) (pe_op op_fdivX (pv 2) (pv 5)))
        (pss_cons (ps_par (i := 2) (j := 5) (by rfl) scBezout.nd rfl rfl (by decide) rfl rfl (pa_cons (pv 5) (pa_cons (pe_op op_sub (pv 2) (pe_op op_mulW (pv 8) (pv 5))) pa_nil)) (by rfl))
        (pss_cons (ps_par (i := 3) (j := 6) (by rfl) scBezout.nd rfl rfl (by decide) rfl rfl (pa_cons (pv 6) (pa_cons (pe_op op_sub (pv 3) (pe_op op_mulW (pv 8) (pv 6))) pa_nil)) (by rfl))
        (pss_one (ps_par (i := 4) (j := 7) (by rfl) scBezout.nd rfl rfl (by decide) rfl rfl (pa_cons (pv 7) (pa_cons (pe_op op_sub (pv 4) (pe_op op_mulW (pv 8) (pv 7))) pa_nil)) (by rfl)))))))
      (pss_cons (ps_if (pt_cmp (pc_lt (pv 2) pe_int))
      (pss_one (ps_ret (pe_tup (pa_cons (pe_un un_neg (pv 2)) (pa_cons (pe_un un_neg (pv 3)) (pa_cons (pe_un un_neg (pv 4)) pa_nil))))))
      pss_nil)
      (pss_one (ps_ret (pe_tup (pa_cons (pv 2) (pa_cons (pv 3) (pa_cons (pv 4) pa_nil)))))))))), ?_⟩
    refine ⟨_, rfl, _, _, _, rfl, _, rfl, _, _, _, rfl, ?_⟩
    refine ⟨fun m σ H' => ∃ (g u v r ru rv : Int) (x8 : Option V), σ = [some (.int a), some (.int b), some (.int g), some (.int u), some (.int v), some (.int r), some (.int ru), some (.int rv), x8] ∧ m = r.natAbs ∧ H' = H ∧ Bz a b g u v r ru rv,
      ⟨_, a, 1, 0, b, 0, 1, none, rfl, rfl, rfl, by omega, by omega, ⟨rfl, by omega, by omega⟩, .inl ⟨rfl, rfl, rfl, rfl, rfl, rfl⟩⟩, ?_⟩
    rintro m σ H' ⟨g, u, v, r, ru, rv, x8, rfl, rfl, rfl, hz⟩
    refine ⟨_, rfl, _, _, rfl, rfl, _, rfl, wayN2 (fun hr => ?_) (fun hr => ?_)⟩
    · obtain ⟨s1, s2, s3, s4⟩ := hz.size hr
      have up : (2 : Nat) ^ 8990 ≤ 2 ^ 9400 := Nat.pow_le_pow_right (by decide) (by decide)
      have e4 : (2 : Nat) ^ 9404 = 2 ^ 9400 * 16 := Nat.pow_add 2 9400 4
      have q1 : (g.fdiv r).natAbs < 2 ^ 9404 := by omega
      have q2 : r.natAbs < 2 ^ 9000 := pow_up (Nat.lt_of_le_of_lt s2 hb) (by decide)
      have q3 : ru.natAbs < 2 ^ 9404 := by omega
      have q4 : rv.natAbs < 2 ^ 9404 := by omega
      refine ⟨fun σ' H2 => ∃ (g' u' v' r' ru' rv' : Int) (x8 : Option V), σ' = [some (.int a), some (.int b), some (.int g'), some (.int u'), some (.int v'), some (.int r'), some (.int ru'), some (.int rv'), x8] ∧ r'.natAbs < r.natAbs ∧ H2 = H' ∧ Bz a b g' u' v' r' ru' rv', ?_, ?_⟩
      · rintro σ' H2 ⟨g', u', v', r', ru', rv', x8', rfl, hl, rfl, hz'⟩
        exact ⟨_, hl, g', u', v', r', ru', rv', x8', rfl, rfl, rfl, hz'⟩
      · refine ⟨_, rfl, _, rfl, _, _, rfl, rfl, ⟨hr, q2⟩, ?_⟩
        refine ⟨_, rfl, _, rfl, _, rfl, _, rfl, _, _, rfl, rfl, wide_mul q1 q2 (by decide) (by decide) (by decide), _, _, rfl, rfl, _, _, rfl, ?_⟩
        refine ⟨_, rfl, _, rfl, _, rfl, _, rfl, _, _, rfl, rfl, wide_mul q1 q3 (by decide) (by decide) (by decide), _, _, rfl, rfl, _, _, rfl, ?_⟩
        refine ⟨_, rfl, _, rfl, _, rfl, _, rfl, _, _, rfl, rfl, wide_mul q1 q4 (by decide) (by decide) (by decide), _, _, rfl, rfl, _, _, rfl, ?_⟩
        exact ⟨_, _, _, _, _, _, _, rfl, (fd_rest hr).1, rfl, hz.step hr⟩
    · subst hr
      obtain ⟨h1, h2, ⟨h3, hu, hv⟩, h4⟩ := hz
      have up : (2 : Nat) ^ 8990 ≤ 2 ^ 9400 := Nat.pow_le_pow_right (by decide) (by decide)
      have e4 : (2 : Nat) ^ 9404 = 2 ^ 9400 * 16 := Nat.pow_add 2 9400 4
      have hg : ((g.natAbs : Nat) : Int) = gI a b := by
        rw [← h3]
        simp
      refine ⟨_, rfl, _, _, rfl, rfl, _, rfl, way2 (fun hn => ?_) (fun hn => ?_)⟩
      · refine ⟨_, rfl, _, rfl, _, rfl, _, rfl, _, rfl, _, rfl, by show 3 ≤ sizeLine; decide, fun p hp => ?_⟩
        have eg : -g = gI a b := by omega
        have k := q p (-u) (-v) hp (by rw [Int.neg_mul, Int.neg_mul]; omega) (by omega) (by omega)
        rw [← eg] at k
        exact k
      · refine ⟨_, rfl, _, rfl, _, rfl, by show 3 ≤ sizeLine; decide, fun p hp => ?_⟩
        have eg : g = gI a b := by omega
        have k := q p u v hp (by omega) (by omega) (by omega)
        rw [← eg] at k
        exact k
def spMeasure (K : PySem.W.Frag) : Sp := fun vs H Q _ => ∃ (l : Addr) (ns : List Int), vs = [.ref l] ∧ (SqL K H l (ns.map V.int) ∨ SqT K H l (ns.map V.int)) ∧ Q (.int (gL ns)) H
theorem uMeasureT {K : PySem.W.Frag} {H : Hp} {Q : VK} {E : XK} {vs : List V} {l : Addr} {x y : Int} (e : vs = [.ref l]) (hs : SqT K H l [.int x, .int y]) (kk : Q (.int (gL [x, y])) H) : spMeasure K vs H Q E := ⟨l, [x, y], e, .inr hs, kk⟩
theorem okMeasure (T : Txt K mg fa fd) : FnOk P w K mg base CX0 1 (fa 1) (fd 1) ["numbers"] (spMeasure K) := by
  refine T.F_measure.ok scMeasure (fun vs H Q E h => ?_) (fun cdv A outer s H vs Q E hr h => ?_)
  · obtain ⟨l, ns, rfl, hS, q⟩ := h
    rfl
  · obtain ⟨l, ns, rfl, hS, q⟩ := h
    rcases hS with hS | hS
    · refine ⟨_, (pss_cons (ps_set (i := 1) scMeasure.nd rfl (Or.inl rfl) pe_int)
      (pss_cons (ps_for PassesOwn.never rfl (piL K (pv 0)) (pg_name (i := 2) scMeasure.nd rfl (Or.inl rfl))
      (pss_one (ps_set (i := 1) scMeasure.nd rfl (Or.inl rfl) (pe_callBfun cr_gcd (by rfl) T.g_gcd (pa_cons (pv 1) (pa_cons (pv 2) pa_nil))))))
      (pss_one (ps_ret (pv 1))))), ?_⟩
      refine ⟨_, rfl, l, rfl, ⟨_, hS⟩, for_list (K := K) (a := l) (xs := ns.map V.int) (fun i σ H' => ∃ x2, σ = [some (.ref l), some (.int (gL (ns.take i))), x2] ∧ H' = H) ⟨_, rfl, rfl⟩ (fun i σ H' hi ⟨x2, e1, e2⟩ => by rw [e2]; exact hS) (fun i x σ H' hx ⟨x2, e1, e2⟩ => ?_) (fun σ H' ⟨x2, e1, e2⟩ => ?_)⟩
      · subst e1 e2
        rw [List.getElem?_map] at hx
        cases hn : ns[i]? with
        | none =>
          rw [hn] at hx
          cases hx
        | some n =>
          rw [hn] at hx
          cases hx
          refine ⟨_, rfl, _, rfl, _, _, rfl, some (.int n), ?_, rfl⟩
          rw [gL_take hn]
          rfl
      · subst e1 e2
        refine ⟨_, rfl, ?_⟩
        rw [List.length_map, List.take_length]
        exact q
    · refine ⟨_, (pss_cons (ps_set (i := 1) scMeasure.nd rfl (Or.inl rfl) pe_int)
      (pss_cons (ps_for PassesOwn.never rfl (piT K (pv 0)) (pg_name (i := 2) scMeasure.nd rfl (Or.inl rfl))
      (pss_one (ps_set (i := 1) scMeasure.nd rfl (Or.inl rfl) (pe_callBfun cr_gcd (by rfl) T.g_gcd (pa_cons (pv 1) (pa_cons (pv 2) pa_nil))))))
      (pss_one (ps_ret (pv 1))))), ?_⟩
      refine ⟨_, rfl, l, rfl, ⟨_, hS⟩, for_tup (K := K) (a := l) (xs := ns.map V.int) (fun i σ H' => ∃ x2, σ = [some (.ref l), some (.int (gL (ns.take i))), x2] ∧ H' = H) ⟨_, rfl, rfl⟩ (fun i σ H' hi ⟨x2, e1, e2⟩ => by rw [e2]; exact hS) (fun i x σ H' hx ⟨x2, e1, e2⟩ => ?_) (fun σ H' ⟨x2, e1, e2⟩ => ?_)⟩
      · subst e1 e2
        rw [List.getElem?_map] at hx
        cases hn : ns[i]? with
        | none =>
          rw [hn] at hx
          cases hx
        | some n =>
          rw [hn] at hx
          cases hx
          refine ⟨_, rfl, _, rfl, _, _, rfl, some (.int n), ?_, rfl⟩
          rw [gL_take hn]
          rfl
      · subst e1 e2
        refine ⟨_, rfl, ?_⟩
        rw [List.length_map, List.take_length]
        exact q
def spFloorRoot (_ : PySem.W.Frag) : Sp := fun vs H Q _ => ∃ n : Int, vs = [.int n] ∧ 0 ≤ n ∧ n.natAbs < 2 ^ 13000 ∧ Q (.int (rootI n)) H
theorem uFloorRoot {K : PySem.W.Frag} {H : Hp} {Q : VK} {E : XK} {vs : List V} {n : Int} (e : vs = [.int n]) (h0 : 0 ≤ n) (h1 : n < 1000000000000000000) (kk : Q (.int (rootI n)) H) : spFloorRoot K vs H Q E :=
  ⟨n, e, h0, pow_up (a := 60) (by show n.natAbs < 1152921504606846976; omega) (by decide), kk⟩
theorem okFloorRoot (T : Txt K mg fa fd) : FnOk P w K mg base CX0 1 (fa 2) (fd 2) ["n"] (spFloorRoot K) := by
  refine T.F_floor_root.ok scFloorRoot (fun vs H Q E h => ?_) (fun cdv A outer s H vs Q E hr h => ?_)
  · obtain ⟨n, rfl, h0, h1, q⟩ := h
    rfl
  · obtain ⟨n, rfl, h0, h1, q⟩ := h
    refine ⟨_, (pss_one (ps_ret (pe_callBfun cr_isqrt (by rfl) T.g_isqrt (pa_cons (pv 0) pa_nil)))), ?_⟩
    exact ⟨_, rfl, _, rfl, h0, h1, q⟩
def spIsSquare (_ : PySem.W.Frag) : Sp := fun vs H Q _ => ∃ n : Int, vs = [.int n] ∧ n.natAbs < 2 ^ 13000 ∧ Q (.bl (decide (0 ≤ n ∧ rootI n * rootI n = n))) H
theorem uIsSquare {K : PySem.W.Frag} {H : Hp} {Q : VK} {E : XK} {vs : List V} {n : Int} {m : Nat} (hev : vs = [.int n]) (h0 : Bd m n) (h1 : Nat.ble m 13000 = true) (kk : Q (.bl (decide (0 ≤ n ∧ rootI n * rootI n = n))) H) : spIsSquare K vs H Q E := ⟨n, hev, bdm h0 h1, kk⟩
theorem okIsSquare (T : Txt K mg fa fd) : FnOk P w K mg base CX0 2 (fa 3) (fd 3) ["n"] (spIsSquare K) := by
  refine T.F_is_square.ok scIsSquare (fun vs H Q E h => ?_) (fun cdv A outer s H vs Q E hr h => ?_)
  · obtain ⟨n, rfl, h1, q⟩ := h
    rfl
  · obtain ⟨n, rfl, h1, q⟩ := h
    refine ⟨_, (pss_cons (ps_if (pt_cmp (pc_lt (pv 0) pe_int))
      (pss_one (ps_ret pe_bl))
      pss_nil)
      (pss_cons (ps_set (i := 1) scIsSquare.nd rfl (Or.inl rfl) (pe_call (sp := spFloorRoot K) (okFloorRoot T) hr (by rfl) T.G_floor_root T.F_floor_root.kp T.B_floor_root .nil pass0 (pa_cons (pv 0) pa_nil)))
      (pss_one (ps_ret (pe_cmp (pc_eqI (pe_op op_mulW (pv 1) (pv 1)) (pv 0))))))), ?_⟩
    refine ⟨_, rfl, _, _, rfl, rfl, _, rfl, ite2 (fun e => ?_) (fun e => ?_)⟩
    · have e1 : n < 0 := of_decide_eq_true e
      have e2 : decide (0 ≤ n ∧ rootI n * rootI n = n) = false := decide_eq_false fun z => by omega
      rw [e2] at q
      exact q
    · have e1 : ¬ n < 0 := fun z => e (decide_eq_true z)
      have h0 : 0 ≤ n := by omega
      have hr := rootI_lt h0 h1
      refine ⟨_, rfl, n, rfl, h0, h1, _, rfl, _, rfl, _, _, rfl, rfl, wide_mul hr hr (by decide) (by decide) (by decide), _, rfl, _, _, rfl, rfl, ?_⟩
      have e2 : decide (0 ≤ n ∧ rootI n * rootI n = n) = decide (rootI n * rootI n = n) := by
        rw [decide_eq_decide]
        exact ⟨fun z => z.2, fun z => ⟨h0, z⟩⟩
      rw [e2] at q
      exact q
def spPower (_ : PySem.W.Frag) : Sp := fun vs H Q _ => ∃ b n : Nat, vs = [.int (b : Int), .int (n : Int)] ∧ b < 2 ^ 64 ∧ n < 2 ^ 60 ∧ Q (.int ((b ^ n : Nat) : Int)) H
theorem okPower (T : Txt K mg fa fd) : FnOk P w K mg base CX0 1 (fa 4) (fd 4) ["base", "many"] (spPower K) := by
  refine T.F_power.ok scPower (fun vs H Q E h => ?_) (fun cdv A outer s H vs Q E hr h => ?_)
  · obtain ⟨b, n, rfl, hb, hn, q⟩ := h
    rfl
  · obtain ⟨b, n, rfl, hb, hn, q⟩ := h
    refine ⟨_, (pss_cons (ps_set (i := 2) scPower.nd rfl (Or.inl rfl) pe_int)
      (pss_cons (ps_for PassesOwn.never rfl (pi_range1 (by rfl) T.m_range (pa_cons (pv 1) pa_nil)) (pg_name (i := 3) scPower.nd rfl (Or.inl rfl))
      (pss_one (ps_set (i := 2) scPower.nd rfl (Or.inl rfl) (pe_op mulNN (pv 2) (pv 0)))))
      (pss_one (ps_ret (pv 2))))), ?_⟩
    have hn' : n < 1152921504606846976 := hn
    refine ⟨_, rfl, _, rfl, by omega, by omega, ?_⟩
    have e : ((n : Nat) : Int).toNat = n := rfl
    rw [e]
    refine for_range (lo := 0) (n := n) (fun i σ H' => ∃ x3, σ = [some (.int (b : Int)), some (.int (n : Int)), some (.int ((b ^ i : Nat) : Int)), x3] ∧ H' = H) ⟨none, rfl, rfl⟩ (fun i σ H' hi ⟨x3, e1, e2⟩ => ?_) (fun σ H' ⟨x3, e1, e2⟩ => ?_)
    · subst e1 e2
      exact ⟨_, rfl, _, rfl, b ^ i, b, rfl, rfl, .inr hb, _, rfl, rfl⟩
    · subst e1 e2
      exact ⟨_, rfl, q⟩
def spPowerModulo (_ : PySem.W.Frag) : Sp := fun vs H Q _ => ∃ (z : Int) (b e m : Nat), vs = [.int z, .int (e : Int), .int (m : Int)] ∧ 0 < m ∧ m < 2 ^ 64 ∧ e < 2 ^ 64 ∧ z % (m : Int) = ((b % m : Nat) : Int) ∧ Q (.int ((pmod b e m : Nat) : Int)) H
theorem okPowerModulo (T : Txt K mg fa fd) : FnOk P w K mg base CX0 1 (fa 5) (fd 5) ["base", "many", "modulus"] (spPowerModulo K) := by
  refine T.F_power_modulo.ok scPowerModulo (fun vs H Q E h => ?_) (fun cdv A outer s H vs Q E hr h => ?_)
  · obtain ⟨z, b, e, m, rfl, m0, m1, e1, hz, q⟩ := h
    rfl
  · obtain ⟨z, b, e, m, rfl, m0, m1, e1, hz, q⟩ := h
    refine ⟨_, (pss_cons (ps_set (i := 3) scPowerModulo.nd rfl (Or.inl rfl) pe_int)
      (pss_cons (ps_set (i := 4) scPowerModulo.nd rfl (Or.inl rfl) (pe_op op_mod (pv 0) (pv 2)))
      (pss_cons (ps_while PassesOwn.never (pt_cmp (pc_gt (pv 1) pe_int))
      (C8.pss_cut (ps_if (pt_cmp (pc_eqI (pe_op modNN (pv 1) pe_int) pe_int))
        (pss_one (ps_set (i := 3) scPowerModulo.nd rfl (Or.inl rfl) (pe_op modNN (pe_op mulNN (pv 3) (pv 4)) (pv 2))))
        pss_nil)
        (pss_cons (ps_set (i := 4) scPowerModulo.nd rfl (Or.inl rfl) (pe_op modNN (pe_op mulNN (pv 4) (pv 4)) (pv 2)))
        (pss_one (ps_set (i := 1) scPowerModulo.nd rfl (Or.inl rfl) (pe_op divNN (pv 1) pe_int))))))
      (pss_one (ps_ret (pv 3)))))), ?_⟩
    refine ⟨_, rfl, _, rfl, _, _, rfl, rfl, by show (0 : Int) < (m : Int); omega, ?_⟩
    dsimp only
    rw [hz]
    refine ⟨fun t σ H' => ∃ (f r s k : Nat), σ = [some (.int z), some (.int (k : Int)), some (.int (m : Int)), some (.int (r : Int)), some (.int (s : Int))] ∧ t = k ∧ H' = H ∧ k < 2 ^ f ∧ s < m ∧ pmL m f r s k = pmod b e m,
      ⟨_, 64, 1, b % m, e, rfl, rfl, rfl, e1, Nat.mod_lt _ m0, rfl⟩, ?_⟩
    rintro t σ H' ⟨f, r, s, k, rfl, rfl, rfl, hk, hs, hr⟩
    refine ⟨_, rfl, _, _, rfl, rfl, _, rfl, way2 (fun h => ?_) (fun h => ?_)⟩
    · have k0 : t ≠ 0 := by omega
      obtain ⟨g, rfl⟩ : ∃ g, f = g + 1 := ⟨f - 1, by
        cases f with
        | zero => rw [Nat.pow_zero] at hk; omega
        | succ g => omega⟩
      unfold pmL at hr
      rw [bifF (beqF k0)] at hr
      have s64 : s < 2 ^ 64 := Nat.lt_trans hs m1
      refine ⟨fun σ' H2 => ∃ (f r s k : Nat), σ' = [some (.int z), some (.int (k : Int)), some (.int (m : Int)), some (.int (r : Int)), some (.int (s : Int))] ∧ k < t ∧ H2 = H' ∧ k < 2 ^ f ∧ s < m ∧ pmL m f r s k = pmod b e m, ?_, ?_⟩
      · rintro σ' H2 ⟨f, r, s, k, e1, e2, e3, e4⟩
        exact ⟨k, e2, f, r, s, k, e1, rfl, e3, e4⟩
      · refine ⟨fun σ' H2 => σ' = [some (.int z), some (.int (t : Int)), some (.int (m : Int)), some (.int ((bif (t % 2).beq 1 then r * s % m else r : Nat) : Int)), some (.int (s : Int))] ∧ H2 = H', ?_, ?_⟩
        · refine ⟨_, rfl, t, 2, rfl, rfl, by decide, _, _, rfl, rfl, _, rfl, way2 (fun h2 => ?_) (fun h2 => ?_)⟩
          · have e2 : t % 2 = 1 := by omega
            rw [bifT (beqT e2)]
            exact ⟨_, rfl, _, rfl, r, s, rfl, rfl, .inr s64, _, rfl, r * s, m, rfl, rfl, m0, rfl, rfl⟩
          · have e2 : t % 2 ≠ 1 := by omega
            rw [bifF (beqF e2)]
            exact ⟨rfl, rfl⟩
        · rintro σ' H2 ⟨rfl, rfl⟩
          refine ⟨_, rfl, _, rfl, s, s, rfl, rfl, .inr s64, _, rfl, s * s, m, rfl, rfl, m0, ?_⟩
          refine ⟨_, rfl, t, 2, rfl, rfl, div9 (by decide) (by decide), g, _, s * s % m, t / 2, rfl, by omega, rfl, ?_, Nat.mod_lt _ m0, hr⟩
          have e3 : (2 : Nat) ^ (g + 1) = 2 ^ g * 2 := Nat.pow_succ _ _
          omega
    · have k0 : t = 0 := by omega
      subst k0
      refine ⟨_, rfl, ?_⟩
      have e2 : pmL m f r s 0 = r := by
        cases f with
        | zero => rfl
        | succ g => rfl
      rw [e2] at hr
      rw [← hr] at q
      exact q
def spTakenOut (_ : PySem.W.Frag) : Sp := fun vs H Q _ => ∃ n p : Nat, vs = [.int (n : Int), .int (p : Int)] ∧ 0 < n ∧ n < 2 ^ 64 ∧ 2 ≤ p ∧ p < 2 ^ 64 ∧
  ∀ t, H t = none → Q (.ref t) (upd H t (.tup [.int ((takenOut n p).1 : Int), .int ((takenOut n p).2 : Int)]))
theorem okTakenOut (T : Txt K mg fa fd) : FnOk P w K mg base CX0 1 (fa 6) (fd 6) ["n", "p"] (spTakenOut K) := by
  refine T.F_taken_out.ok scTakenOut (fun vs H Q E h => ?_) (fun cdv A outer s H vs Q E hr h => ?_)
  · obtain ⟨n, p, rfl, n0, n1, p0, p1, q⟩ := h
    rfl
  · obtain ⟨n, p, rfl, n0, n1, p0, p1, q⟩ := h
    refine ⟨_, (pss_cons (ps_set (i := 2) scTakenOut.nd rfl (Or.inl rfl) pe_int)
      (pss_cons (ps_while PassesOwn.never (pt_cmp (pc_eqI (pe_op modNN (pv 0) (pv 1)) pe_int))
      (pss_cons (ps_set (i := 0) scTakenOut.nd rfl (Or.inl rfl) (pe_op divNN (pv 0) (pv 1)))
        (pss_one (ps_aug (i := 2) scTakenOut.nd rfl (Or.inl rfl) pe_int ip_add))))
      (pss_one (ps_ret (pe_tup (pa_cons (pv 2) (pa_cons (pv 0) pa_nil))))))), ?_⟩
    refine ⟨fun t σ H' => ∃ (f x k : Nat), σ = [some (.int (x : Int)), some (.int (p : Int)), some (.int (k : Int))] ∧ t = x ∧ H' = H ∧ 0 < x ∧ x < 2 ^ f ∧ toL p f x k = takenOut n p,
      ⟨_, 64, n, 0, rfl, rfl, rfl, n0, n1, rfl⟩, ?_⟩
    rintro t σ H' ⟨f, x, k, rfl, rfl, rfl, x0, x1, hr⟩
    refine ⟨_, rfl, _, rfl, t, p, rfl, rfl, by omega, _, _, rfl, rfl, _, rfl, way2 (fun h => ?_) (fun h => ?_)⟩
    · have k0 : t % p = 0 := by omega
      obtain ⟨g, rfl⟩ : ∃ g, f = g + 1 := ⟨f - 1, by
        cases f with
        | zero => rw [Nat.pow_zero] at x1; omega
        | succ g => omega⟩
      unfold toL at hr
      rw [bifT (beqT k0)] at hr
      have hle : p ≤ t := Nat.le_of_dvd x0 (Nat.dvd_of_mod_eq_zero k0)
      have d0 : 0 < t / p := Nat.div_pos hle (by omega)
      have d1 : t / p ≤ t / 2 := Nat.div_le_div_left p0 (by decide)
      refine ⟨fun σ' H2 => ∃ (f x k : Nat), σ' = [some (.int (x : Int)), some (.int (p : Int)), some (.int (k : Int))] ∧ x < t ∧ H2 = H' ∧ 0 < x ∧ x < 2 ^ f ∧ toL p f x k = takenOut n p, ?_, ?_⟩
      · rintro σ' H2 ⟨f, x, k, e1, e2, e3, e4⟩
        exact ⟨x, e2, f, x, k, e1, rfl, e3, e4⟩
      · refine ⟨_, rfl, _, rfl, t, p, rfl, rfl, div9 (by omega) p1, ?_⟩
        refine ⟨_, rfl, _, _, rfl, rfl, g, t / p, k + 1, rfl, by omega, rfl, d0, ?_, hr⟩
        have e3 : (2 : Nat) ^ (g + 1) = 2 ^ g * 2 := Nat.pow_succ _ _
        omega
    · have k0 : t % p ≠ 0 := by omega
      refine ⟨_, rfl, _, rfl, by show 2 ≤ sizeLine; decide, fun u nu => ?_⟩
      have e2 : toL p f t k = (k, t) := by
        cases f with
        | zero => rfl
        | succ g =>
          unfold toL
          rw [bifF (beqF k0)]
      rw [e2] at hr
      rw [← hr] at q
      exact q u nu
def spBehavesAsPrime (_ : PySem.W.Frag) : Sp := fun vs H Q _ => ∃ n b m o : Nat, vs = [.int (n : Int), .int (b : Int), .int (m : Int), .int (o : Int)] ∧ 1 < n ∧ n < 2 ^ 64 ∧ m < 2 ^ 60 ∧ o < 2 ^ 64 ∧ Q (.bl (behaves n b m o)) H
theorem okBehavesAsPrime (T : Txt K mg fa fd) : FnOk P w K mg base CX0 2 (fa 8) (fd 8) ["n", "base", "many", "odd"] (spBehavesAsPrime K) := by
  refine T.F__behaves_as_prime.ok scBehavesAsPrime (fun vs H Q E h => ?_) (fun cdv A outer s H vs Q E hr h => ?_)
  · obtain ⟨n, b, m, o, rfl, n0, n1, m1, o1, q⟩ := h
    rfl
  · obtain ⟨n, b, m, o, rfl, n0, n1, m1, o1, q⟩ := h
    refine ⟨_, (pss_cons (ps_set (i := 4) scBehavesAsPrime.nd rfl (Or.inl rfl) (pe_call (sp := spPowerModulo K) (okPowerModulo T) hr (by rfl) T.G_power_modulo T.F_power_modulo.kp T.B_power_modulo .nil pass0 (pa_cons (pv 1) (pa_cons (pv 3) (pa_cons (pv 0) pa_nil)))))
      (pss_cons (ps_if (pt_cmp (pc_eqI (pv 4) pe_int))
      (pss_one (ps_ret pe_bl))
      pss_nil)
      (pss_cons (ps_for PassesOwn.never rfl (pi_range1 (by rfl) T.m_range (pa_cons (pv 2) pa_nil)) (pg_name (i := 5) scBehavesAsPrime.nd rfl (Or.inl rfl))
      (pss_cons (ps_if (pt_cmp (pc_eqI (pv 4) (pe_op op_subN (pv 0) pe_int)))
        (pss_one (ps_ret pe_bl))
        pss_nil)
        (pss_one (ps_set (i := 4) scBehavesAsPrime.nd rfl (Or.inl rfl) (pe_op modNN (pe_op mulNN (pv 4) (pv 4)) (pv 0))))))
      (pss_one (ps_ret pe_bl))))), ?_⟩
    have m1' : m < 1152921504606846976 := m1
    refine ⟨_, rfl, _, rfl, _, rfl, (b : Int), b, o, n, rfl, by omega, n1, o1, (Int.natCast_emod b n).symm, ?_⟩
    unfold behaves at q
    refine ⟨_, rfl, _, _, rfl, rfl, _, rfl, way2 (fun h => ?_) (fun h => ?_)⟩
    · have e : pmod b o n = 1 := by omega
      rw [bifT (beqT e)] at q
      exact q
    · have e : pmod b o n ≠ 1 := by omega
      rw [bifF (beqF e)] at q
      refine ⟨_, rfl, _, rfl, by omega, by omega, ?_⟩
      have em : ((m : Nat) : Int).toNat = m := rfl
      rw [em]
      generalize hR : behL n m (pmod b o n) = R at q
      refine for_range (lo := 0) (n := m) (fun i σ H' => ∃ (x : Nat) (x5 : Option V), σ = [some (.int (n : Int)), some (.int (b : Int)), some (.int (m : Int)), some (.int (o : Int)), some (.int (x : Int)), x5] ∧ H' = H ∧ i ≤ m ∧ x < n ∧ behL n (m - i) x = R)
        ⟨pmod b o n, none, rfl, rfl, Nat.zero_le _, pmod_lt n0, hR⟩ (fun i σ H' hi ⟨x, x5, e1, e2, e3, e4, e5⟩ => ?_) (fun σ H' ⟨x, x5, e1, e2, e3, e4, e5⟩ => ?_)
      · subst e1 e2
        obtain ⟨g, hg⟩ : ∃ g, m - i = g + 1 := ⟨m - i - 1, by omega⟩
        rw [hg] at e5
        unfold behL at e5
        refine ⟨_, rfl, _, rfl, n, 1, rfl, rfl, by omega, _, _, rfl, rfl, _, rfl, way2 (fun h => ?_) (fun h => ?_)⟩
        · have ex : x = n - 1 := by omega
          rw [bifT (beqT ex)] at e5
          rw [← e5] at q
          exact q
        · have ex : x ≠ n - 1 := by omega
          rw [bifF (beqF ex)] at e5
          have eg : m - (i + 1) = g := by omega
          refine ⟨_, rfl, _, rfl, x, x, rfl, rfl, .inl (Nat.lt_trans e4 n1), _, rfl, x * x, n, rfl, rfl, by omega, x * x % n, _, rfl, rfl, by omega, Nat.mod_lt _ (by omega), ?_⟩
          rw [eg]
          exact e5
      · subst e1 e2
        rw [Nat.sub_self] at e5
        unfold behL at e5
        rw [← e5] at q
        exact q
def spIsPrime (_ : PySem.W.Frag) : Sp := fun vs H Q _ => ∃ n : Nat, vs = [.int (n : Int)] ∧ n < 2 ^ 60 ∧ ∀ H', Same H H' → Q (.bl (isPrimeM n)) H'
theorem byW_app (n : Nat) : ∀ (xs ys : List Nat), byW n xs = none → byW n (xs ++ ys) = byW n ys
  | [], _, _ => rfl
  | p :: r, ys, h => by
    unfold byW at h
    show byW n (p :: (r ++ ys)) = _
    rw [byW]
    cases e : (n % p).beq 0 with
    | true =>
      rw [e] at h
      cases h
    | false =>
      rw [e] at h
      exact byW_app n r ys h
theorem toL_fst {p : Nat} : ∀ {f n k : Nat}, (toL p f n k).1 ≤ k + f
  | 0, n, k => Nat.le_refl _
  | f + 1, n, k => by
    unfold toL
    cases (n % p).beq 0 with
    | true =>
      have h := toL_fst (p := p) (f := f) (n := n / p) (k := k + 1)
      show (toL p f (n / p) (k + 1)).1 ≤ k + (f + 1)
      omega
    | false => show k ≤ k + (f + 1); omega
theorem okIsPrime (T : Txt K mg fa fd) : FnOk P w K mg base CX0 3 (fa 7) (fd 7) ["n"] (spIsPrime K) := by
  refine T.F_is_prime.ok scIsPrime (fun vs H Q E h => ?_) (fun cdv A outer s H vs Q E hr h => ?_)
  · obtain ⟨n, rfl, n1, q⟩ := h
    rfl
  · obtain ⟨n, rfl, n1, q⟩ := h
    refine ⟨_, (pss_cons (ps_if (pt_cmp (pc_lt (pv 0) pe_int))
      (pss_one (ps_ret pe_bl))
      pss_nil)
      (pss_cons (ps_for PassesOwn.never rfl (piT K (pe_glob (v := .ref (fa 70)) (by rfl) T.g_WITNESSES rfl)) (pg_name (i := 1) scIsPrime.nd rfl (Or.inl rfl))
      (pss_one (ps_if (pt_cmp (pc_eqI (pe_op modNN (pv 0) (pv 1)) pe_int))
        (pss_one (ps_ret (pe_cmp (pc_eqI (pv 0) (pv 1)))))
        pss_nil)))
      (pss_cons (ps_asg (pe_call (sp := spTakenOut K) (okTakenOut T) (hr.mono (by decide)) (by rfl) T.G_taken_out T.F_taken_out.kp T.B_taken_out .nil pass0 (pa_cons (pe_op op_subN (pv 0) pe_int) (pa_cons pe_int pa_nil))) (pgT K 2 (by rfl) (pgs_cons (pg_name (i := 2) scIsPrime.nd rfl (Or.inl rfl)) (pgs_cons (pg_name (i := 3) scIsPrime.nd rfl (Or.inl rfl)) pgs_nil))))
      (pss_cons (ps_for PassesOwn.never rfl (piT K (pe_glob (v := .ref (fa 70)) (by rfl) T.g_WITNESSES rfl)) (pg_name (i := 4) scIsPrime.nd rfl (Or.inl rfl))
      (pss_one (ps_if (pt_not (pt_val (pe_call (sp := spBehavesAsPrime K) (okBehavesAsPrime T) hr (by rfl) T.G__behaves_as_prime T.F__behaves_as_prime.kp T.B__behaves_as_prime .nil pass0 (pa_cons (pv 0) (pa_cons (pv 4) (pa_cons (pv 2) (pa_cons (pv 3) pa_nil)))))))
        (pss_one (ps_ret pe_bl))
        pss_nil)))
      (pss_one (ps_ret pe_bl)))))), ?_⟩
    have n1' : n < 1152921504606846976 := n1
    have n64 : n < 2 ^ 64 := Nat.lt_trans n1 (by decide)
    unfold isPrimeM at q
    refine ⟨_, rfl, _, _, rfl, rfl, _, rfl, way2 (fun h => ?_) (fun h => ?_)⟩
    · have e : n ≤ 1 := by omega
      rw [bifT (bleT e)] at q
      exact q H (Same.refl H)
    · have e : ¬ n ≤ 1 := by omega
      rw [bifF (bleF e)] at q
      have hW := T.S_WITNESSES
      refine ⟨_, rfl, ⟨_, hW H⟩, for_tup (K := K) (xs := (wits.map fun (x : Nat) => V.int (x : Int))) (fun i σ H' => ∃ x1, σ = [some (.int (n : Int)), x1, none, none, none] ∧ H' = H ∧ byW n (wits.take i) = none) ⟨none, rfl, rfl, rfl⟩ (fun i σ H' hi ⟨x1, e1, e2, e3⟩ => hW H') (fun i x σ H' hx ⟨x1, e1, e2, e3⟩ => ?_) (fun σ H' ⟨x1, e1, e2, e3⟩ => ?_)⟩
      · subst e1 e2
        rw [List.getElem?_map] at hx
        cases hn : wits[i]? with
        | none =>
          rw [hn] at hx
          cases hx
        | some p =>
          rw [hn] at hx
          cases hx
          have pw : p ∈ wits := List.mem_of_getElem? hn
          have p0 : 0 < p := (by decide : ∀ x ∈ wits, 0 < x) p pw
          have tk : wits.take (i + 1) = wits.take i ++ [p] := by
            rw [List.take_add_one, hn]
            rfl
          refine ⟨_, rfl, _, rfl, n, p, rfl, rfl, p0, _, _, rfl, rfl, _, rfl, way2 (fun h2 => ?_) (fun h2 => ?_)⟩
          · have e4 : n % p = 0 := by omega
            have e5 : byW n wits = some (n.beq p) := by
              have sp : wits = wits.take i ++ (p :: wits.drop (i + 1)) := by
                have h5 := List.getElem?_eq_some_iff.mp hn
                obtain ⟨h6, h7⟩ := h5
                rw [← h7, ← List.drop_eq_getElem_cons h6, List.take_append_drop]
              rw [sp, byW_app _ _ _ e3, byW, bifT (beqT e4)]
            rw [e5] at q
            refine ⟨_, rfl, _, rfl, _, _, rfl, rfl, ?_⟩
            have e6 : decide ((n : Int) = (p : Int)) = n.beq p := by
              by_cases z : n = p
              · rw [decide_eq_true (by omega), beqT z]
              · rw [decide_eq_false (by omega), beqF z]
            dsimp only
            rw [e6]
            exact q _ (Same.refl _)
          · have e4 : n % p ≠ 0 := by omega
            refine ⟨_, rfl, rfl, ?_⟩
            rw [tk, byW_app _ _ _ e3, byW, bifF (beqF e4)]
            rfl
      · subst e1 e2
        have e5 : byW n wits = none := by
          rw [List.length_map, List.take_length] at e3
          exact e3
        rw [e5] at q
        have z1 : 0 < n - 1 := by omega
        refine ⟨_, rfl, n, 1, rfl, rfl, by omega, n - 1, 2, rfl, z1, by omega, by decide, by decide, fun t nt => ?_⟩
        have od := toL_pos (p := 2) (by decide) (f := 64) (k := 0) z1
        have mn := toL_fst (p := 2) (f := 64) (n := n - 1) (k := 0)
        change 0 < (takenOut (n - 1) 2).2 ∧ (takenOut (n - 1) 2).2 ≤ n - 1 at od
        change (takenOut (n - 1) 2).1 ≤ 0 + 64 at mn
        refine ⟨t, _, rfl, SqT.of upd_same, rfl, _, _, rfl, _, _, rfl, rfl, ?_⟩
        generalize hf : (fun b => behaves n b (takenOut (n - 1) 2).1 (takenOut (n - 1) 2).2) = f at q
        have hf2 : ∀ b, behaves n b (takenOut (n - 1) 2).1 (takenOut (n - 1) 2).2 = f b := fun b => by rw [← hf]
        generalize (takenOut (n - 1) 2).1 = m at hf2 mn ⊢
        generalize (takenOut (n - 1) 2).2 = o at hf2 od ⊢
        have q2 : ∀ H'', Q (.bl (wits.all f)) H'' → True := fun _ _ => trivial
        refine ⟨_, rfl, ⟨_, hW _⟩, for_tup (K := K) (xs := (wits.map fun (x : Nat) => V.int (x : Int))) (fun i σ H2 => ∃ x4, σ = [some (.int (n : Int)), x1, some (.int (m : Int)), some (.int (o : Int)), x4] ∧ Same H' H2 ∧ (wits.take i).all f = true) ⟨none, rfl, same_upd nt, rfl⟩ (fun i σ H2 hi ⟨x4, e1, e2, e3⟩ => hW H2) (fun i x σ H2 hx ⟨x4, e1, e2, e6⟩ => ?_) (fun σ H2 ⟨x4, e1, e2, e6⟩ => ?_)⟩
        · subst e1
          rw [List.getElem?_map] at hx
          cases hn : wits[i]? with
          | none =>
            rw [hn] at hx
            cases hx
          | some b =>
            rw [hn] at hx
            cases hx
            have tk : wits.take (i + 1) = wits.take i ++ [b] := by
              rw [List.take_add_one, hn]
              rfl
            refine ⟨_, rfl, _, rfl, _, rfl, _, rfl, n, b, m, o, rfl, by omega, n64, Nat.lt_of_le_of_lt mn (by decide), by omega, _, rfl, ?_⟩
            rw [hf2]
            cases hb : f b with
            | false =>
              refine iteT ?_
              have e7 : wits.all f = false := by
                rw [Bool.eq_false_iff]
                intro z
                have z2 := List.all_eq_true.mp z b (List.mem_of_getElem? hn)
                rw [hb] at z2
                cases z2
              rw [e7] at q
              exact q H2 e2
            | true =>
              refine iteF ⟨_, rfl, e2, ?_⟩
              rw [tk, List.all_append, e6, List.all_cons, hb]
              rfl
        · subst e1
          rw [List.length_map, List.take_length] at e6
          rw [e6] at q
          exact q H2 e2
def spLeastMeasure (_ : PySem.W.Frag) : Sp := fun vs H Q _ => ∃ n s q : Nat, vs = [.int (n : Int), .int (s : Int)] ∧ n < 2 ^ 60 ∧ s < 2 ^ 60 ∧ leastM n s = some q ∧ Q (.int (q : Int)) H
theorem PIp_of {X : Cx} {op : Operator} {r : R2} (h : OpR X (inplaceOp op) r) : PIp X op r := h
theorem okLeastMeasure (T : Txt K mg fa fd) : FnOk P w K mg base CX0 1 (fa 10) (fd 10) ["n", "start"] (spLeastMeasure K) := by
  refine T.F__least_measure.ok scLeastMeasure (fun vs H Q E h => ?_) (fun cdv A outer s H vs Q E hr h => ?_)
  · obtain ⟨n, s, q, rfl, n1, s1, hm, Qd⟩ := h
    rfl
  · obtain ⟨n, s, q, rfl, n1, s1, hm, Qd⟩ := h
    refine ⟨_, (pss_cons (ps_if (pt_cmp (pc_eqI (pe_op modNN (pv 0) pe_int) pe_int))
      (pss_one (ps_ret pe_int))
      pss_nil)
      (pss_cons (ps_set (i := 2) scLeastMeasure.nd rfl (Or.inl rfl) (pe_callB (call_max2 rfl) (by rfl) T.m_max (by decide +kernel) (pa_cons pe_int (pa_cons (pv 1) pa_nil))))
      (pss_cons (ps_while PassesOwn.never (pt_cmp (pc_neI (pe_op modNN (pv 0) (pv 2)) pe_int))
      (pss_one (ps_aug (i := 2) scLeastMeasure.nd rfl (Or.inl rfl) pe_int (PIp_of iop_addN))))
      (pss_one (ps_ret (pv 2)))))), ?_⟩
    unfold leastM at hm
    refine ⟨_, rfl, n, 2, rfl, rfl, by decide, _, _, rfl, rfl, _, rfl, way2 (fun h => ?_) (fun h => ?_)⟩
    · have e : n % 2 = 0 := by omega
      rw [bifT (beqT e)] at hm
      cases hm
      exact Qd
    · have e : n % 2 ≠ 0 := by omega
      rw [bifF (beqF e)] at hm
      refine ⟨_, rfl, _, _, rfl, ?_⟩
      have e2 : (if (s : Int) > 3 then (s : Int) else 3) = ((bif s.ble 3 then 3 else s : Nat) : Int) := by
        by_cases z : s ≤ 3
        · rw [bifT (bleT z), if_neg (by omega)]
          rfl
        · rw [bifF (bleF z), if_pos (by omega)]
      dsimp only
      rw [e2]
      have st : (bif s.ble 3 then 3 else s) < 2 ^ 60 ∧ 0 < (bif s.ble 3 then 3 else s) := by
        by_cases z : s ≤ 3
        · rw [bifT (bleT z)]
          exact ⟨by decide, by decide⟩
        · rw [bifF (bleF z)]
          exact ⟨s1, by omega⟩
      generalize (bif s.ble 3 then 3 else s) = x0 at hm st ⊢
      have n1' : n < 1152921504606846976 := n1
      have st1 : x0 < 1152921504606846976 := st.1
      refine ⟨fun t σ H' => ∃ (f x : Nat), σ = [some (.int (n : Int)), some (.int (s : Int)), some (.int (x : Int))] ∧ t = f ∧ H' = H ∧ 0 < x ∧ leastL n f x = some q, ⟨_, n, x0, rfl, rfl, rfl, st.2, hm⟩, ?_⟩
      rintro t σ H' ⟨f, x, rfl, rfl, rfl, x2, hr⟩
      refine ⟨_, rfl, _, rfl, n, x, rfl, rfl, x2, _, _, rfl, rfl, _, rfl, ?_⟩
      obtain ⟨g, rfl⟩ : ∃ g, t = g + 1 := by
        cases t with
        | zero => cases hr
        | succ g => exact ⟨g, rfl⟩
      unfold leastL at hr
      refine wayN2 (fun h => ?_) (fun h => ?_)
      · have k0 : n % x ≠ 0 := by omega
        rw [bifF (beqF k0)] at hr
        refine ⟨fun σ' H2 => σ' = [some (.int (n : Int)), some (.int (s : Int)), some (.int ((x + 2 : Nat) : Int))] ∧ H2 = H', ?_, ?_⟩
        · rintro σ' H2 ⟨e1, e2⟩
          exact ⟨g, by omega, g, x + 2, e1, rfl, e2, by omega, hr⟩
        · exact ⟨_, rfl, x, 2, rfl, rfl, rfl, rfl⟩
      · have k0 : n % x = 0 := by omega
        rw [bifT (beqT k0)] at hr
        cases hr
        exact ⟨_, rfl, Qd⟩
def spPrimeParts (_ : PySem.W.Frag) : Sp := fun vs H Q _ => ∃ (n : Nat) (l : List (Nat × Nat)), vs = [.int (n : Int)] ∧ 0 < n ∧ n < 2 ^ 59 ∧ ppM n = some l ∧
  ∀ H' r as, Same H H' → H r = none → H' r = some (.lst (as.map V.ref)) → Prs H' as (nats l) → as.length ≤ 100 → Q (.ref r) H'
theorem leastL_dvd {n q : Nat} : ∀ {f x : Nat}, 0 < x → leastL n f x = some q → n % q = 0 ∧ x ≤ q
  | 0, x, _, h => by cases h
  | f + 1, x, h0, h => by
    unfold leastL at h
    by_cases e : n % x = 0
    · rw [bifT (beqT e)] at h
      cases h
      exact ⟨e, Nat.le_refl _⟩
    · rw [bifF (beqF e)] at h
      obtain ⟨a, b⟩ := leastL_dvd (by omega) h
      exact ⟨a, by omega⟩
theorem leastM_dvd {n s q : Nat} (h : leastM n s = some q) : n % q = 0 ∧ 2 ≤ q := by
  unfold leastM at h
  by_cases e : n % 2 = 0
  · rw [bifT (beqT e)] at h
    cases h
    exact ⟨e, Nat.le_refl _⟩
  · rw [bifF (beqF e)] at h
    have z : 3 ≤ (bif s.ble 3 then 3 else s) := by
      by_cases y : s ≤ 3
      · rw [bifT (bleT y)]
        exact Nat.le_refl _
      · rw [bifF (bleF y)]
        omega
    obtain ⟨a, b⟩ := leastL_dvd (by omega) h
    exact ⟨a, by omega⟩
theorem okPrimeParts (T : Txt K mg fa fd) : FnOk P w K mg base CX0 4 (fa 9) (fd 9) ["n"] (spPrimeParts K) := by
  refine T.F_prime_parts.ok scPrimeParts (fun vs H Q E h => ?_) (fun cdv A outer s H vs Q E hr h => ?_)
  · obtain ⟨n, l, rfl, n0, n1, hm, q⟩ := h
    rfl
  · obtain ⟨n, l, rfl, n0, n1, hm, q⟩ := h
    refine ⟨_, (pss_cons (ps_set (i := 1) scPrimeParts.nd rfl (Or.inl rfl) (pe_lst pa_nil))
      (pss_cons (ps_set (i := 2) scPrimeParts.nd rfl (Or.inl rfl) (pv 0))
      (pss_cons (ps_set (i := 3) scPrimeParts.nd rfl (Or.inl rfl) pe_int)
      (pss_cons (ps_while PassesOwn.never (pt_cmp (pc_gt (pv 2) pe_int))
      (C8.pss_cut (ps_set (i := 3) scPrimeParts.nd rfl (Or.inl rfl) (pe_ifExp (pt_val (pe_call (sp := spIsPrime K) (okIsPrime T) hr (by rfl) T.G_is_prime T.F_is_prime.kp T.B_is_prime .nil pass0 (pa_cons (pv 2) pa_nil))) (pv 2) (pe_call (sp := spLeastMeasure K) (okLeastMeasure T) (hr.mono (by decide)) (by rfl) T.G__least_measure T.F__least_measure.kp T.B__least_measure .nil pass0 (pa_cons (pv 2) (pa_cons (pv 3) pa_nil)))))
        (pss_cons (ps_asg (pe_call (sp := spTakenOut K) (okTakenOut T) (hr.mono (by decide)) (by rfl) T.G_taken_out T.F_taken_out.kp T.B_taken_out .nil pass0 (pa_cons (pv 2) (pa_cons (pv 3) pa_nil))) (pgT K 2 (by rfl) (pgs_cons (pg_name (i := 4) scPrimeParts.nd rfl (Or.inl rfl)) (pgs_cons (pg_name (i := 2) scPrimeParts.nd rfl (Or.inl rfl)) pgs_nil))))
        (pss_one (ps_expr (pe_bm PySem.F.plainAttrs_list PySem.F.slot_list_append PySem.F.type_list_append mt_append (pv 1) (pa_cons (pe_tup (pa_cons (pv 3) (pa_cons (pv 4) pa_nil))) pa_nil)))))))
      (pss_one (ps_ret (pv 1))))))), ?_⟩
    refine ⟨Nat.zero_le _, fun r nr => ?_⟩
    have n1' : n < 576460752303423488 := n1
    refine ⟨_, rfl, fun t σ H' => ∃ (f x p : Nat) (x4 : Option V) (as : List Addr) (done rest : List (Nat × Nat)), σ = [some (.int (n : Int)), some (.ref r), some (.int (x : Int)), some (.int (p : Int)), x4] ∧ t = f ∧ Same H H' ∧ H' r = some (.lst (as.map V.ref)) ∧ Prs H' as (nats done) ∧ 0 < x ∧ x ≤ n ∧ 0 < p ∧ p ≤ n + 2 ∧ done.length + f = 70 ∧ ppL f x p = some rest ∧ l = done ++ rest,
      ⟨70, 70, n, 2, none, [], [], l, rfl, rfl, same_upd nr, upd_same, .nil, n0, Nat.le_refl _, by omega, by omega, rfl, hm, rfl⟩, ?_⟩
    rintro t σ H' ⟨f, x, p, x4, as, done, rest, rfl, rfl, hs, hr, hp, x0, x1, p0, p1, hl, hpp, hll⟩
    obtain ⟨g, rfl⟩ : ∃ g, t = g + 1 := by
      cases t with
      | zero => cases hpp
      | succ g => exact ⟨g, rfl⟩
    unfold ppL at hpp
    refine ⟨_, rfl, _, _, rfl, rfl, _, rfl, way2 (fun h => ?_) (fun h => ?_)⟩
    · have e : ¬ x ≤ 1 := by omega
      rw [bifF (bleF e)] at hpp
      refine ⟨fun σ' H2 => ∃ (f x p : Nat) (x4 : Option V) (as : List Addr) (done rest : List (Nat × Nat)), σ' = [some (.int (n : Int)), some (.ref r), some (.int (x : Int)), some (.int (p : Int)), x4] ∧ f < g + 1 ∧ Same H H2 ∧ H2 r = some (.lst (as.map V.ref)) ∧ Prs H2 as (nats done) ∧ 0 < x ∧ x ≤ n ∧ 0 < p ∧ p ≤ n + 2 ∧ done.length + f = 70 ∧ ppL f x p = some rest ∧ l = done ++ rest, ?_, ?_⟩
      · rintro σ' H2 ⟨f, x, p, x4, as, done, rest, e1, e2, e3⟩
        exact ⟨f, e2, f, x, p, x4, as, done, rest, e1, rfl, e3⟩
      · cases hq : (bif isPrimeM x then some x else leastM x p) with
        | none =>
          rw [hq] at hpp
          cases hpp
        | some q2 =>
          rw [hq] at hpp
          refine ⟨fun σ' H2 => σ' = [some (.int (n : Int)), some (.ref r), some (.int (x : Int)), some (.int (q2 : Int)), x4] ∧ Same H' H2, ?_, ?_⟩
          · refine ⟨_, rfl, x, rfl, by show x < 1152921504606846976; omega, fun H3 s3 => ⟨_, rfl, ?_⟩⟩
            cases hi : isPrimeM x with
            | true =>
              rw [hi] at hq
              cases hq
              exact iteT ⟨_, rfl, rfl, s3⟩
            | false =>
              rw [hi] at hq
              exact iteF ⟨_, rfl, _, rfl, x, p, q2, rfl, by show x < 1152921504606846976; omega, by show p < 1152921504606846976; omega, hq, rfl, s3⟩
          · rintro σ' H2 ⟨rfl, s2⟩
            have q0 : x % q2 = 0 ∧ 2 ≤ q2 := by
              cases hi : isPrimeM x with
              | true =>
                rw [hi] at hq
                cases hq
                exact ⟨Nat.mod_self x, by omega⟩
              | false =>
                rw [hi] at hq
                exact leastM_dvd hq
            have q1 : q2 ≤ x := Nat.le_of_dvd x0 (Nat.dvd_of_mod_eq_zero q0.1)
            have x64 : x < 2 ^ 64 := by show x < 18446744073709551616; omega
            have q64 : q2 < 2 ^ 64 := Nat.lt_of_le_of_lt q1 x64
            refine ⟨_, rfl, _, rfl, x, q2, rfl, x0, x64, q0.2, q64, fun u nu => ?_⟩
            have su := same_upd (o := .tup [.int ((takenOut x q2).1 : Int), .int ((takenOut x q2).2 : Int)]) nu
            refine ⟨u, _, rfl, SqT.of upd_same, rfl, _, _, rfl, _, _, rfl, rfl, ?_⟩
            have od := toL_pos (p := q2) q0.2 (f := 64) (k := 0) x0
            change 0 < (takenOut x q2).2 ∧ (takenOut x q2).2 ≤ x at od
            have hr2 := su _ _ (s2 _ _ hr)
            refine ⟨_, rfl, .inl ⟨rfl, _, SqL.of hr2⟩, _, rfl, _, rfl, by show 2 ≤ sizeLine; decide, fun w nw => ?_⟩
            have sw := same_upd (o := .tup [.int (q2 : Int), .int ((takenOut x q2).1 : Int)]) nw
            have hr3 := sw _ _ hr2
            refine ⟨_, _, _, rfl, rfl, hr3, ?_, ?_⟩
            · rw [List.length_map, hp.len]
              unfold nats
              rw [List.length_map]
              exact small1000 (by omega)
            cases hl2 : ppL g (takenOut x q2).2 q2 with
            | none =>
              simp only [hl2] at hpp
              cases hpp
            | some l2 =>
              simp only [hl2] at hpp
              cases hpp
              have sall := (s2.trans su).trans sw
              refine ⟨g, (takenOut x q2).2, q2, _, as ++ [w], done ++ [(q2, (takenOut x q2).1)], l2, rfl, by omega, same_mut (hs.trans sall) nr, ?_, ?_, od.1, by omega, by omega, by omega, ?_, hl2, ?_⟩
              · rw [upd_same, List.map_append]
                rfl
              · have e7 : nats (done ++ [(q2, (takenOut x q2).1)]) = nats done ++ [((q2 : Int), ((takenOut x q2).1 : Int))] := by
                  unfold nats
                  rw [List.map_append]
                  rfl
                rw [e7]
                refine ((hp.same sall).mono fun b xs e2 => ?_).snoc ?_
                · rw [upd_ne (ne_of e2 hr3 (by intro z; cases z))]
                  exact e2
                · rw [upd_ne (ne_of upd_same hr3 (by intro z; cases z))]
                  exact upd_same
              · rw [List.length_append, List.length_cons, List.length_nil]
                omega
              · rw [hll, List.append_assoc]
                rfl
    · have e : x ≤ 1 := by omega
      rw [bifT (bleT e)] at hpp
      cases hpp
      rw [List.append_nil] at hll
      subst hll
      refine ⟨_, rfl, q H' r as hs nr hr hp ?_⟩
      rw [hp.len]
      unfold nats
      rw [List.length_map]
      omega
def spProducts (_ : PySem.W.Frag) : Sp := fun vs H Q _ => ∃ (A : Addr) (as : List Addr) (l : List (Nat × Nat)), vs = [.ref A] ∧ H A = some (.lst (as.map V.ref)) ∧ Prs H as (nats l) ∧ PrdOk l ∧
  ∀ H' r, Same H H' → H r = none → H' r = some (.lst ((prdL l).map V.int)) → Q (.ref r) H'
theorem okProducts (T : Txt K mg fa fd) : FnOk P w K mg base CX0 2 (fa 13) (fd 13) ["parts"] (spProducts K) := by
  refine T.F_products.ok scProducts (fun vs H Q E h => ?_) (fun cdv A outer s H vs Q E hr h => ?_)
  · obtain ⟨A, as, l, rfl, hA, hP, ok, kk⟩ := h
    rfl
  · obtain ⟨A, as, l, rfl, hA, hP, ok, kk⟩ := h
    refine ⟨_, (pss_cons (ps_set (i := 1) scProducts.nd rfl (Or.inl rfl) (pe_lst (pa_cons pe_int pa_nil)))
      (pss_cons (ps_for PassesOwn.never rfl (piL K (pv 0)) (pgT K 2 (by rfl) (pgs_cons (pg_name (i := 2) scProducts.nd rfl (Or.inr rfl)) (pgs_cons (pg_name (i := 3) scProducts.nd rfl (Or.inl rfl)) pgs_nil)))
      (pss_cons (ps_set (i := 4) scProducts.nd rfl (Or.inr rfl) (pe_lc (own := [("k", 5)]) (g := gName 5) (tt := tYes) rfl scProducts.nd (pi_range1 (by rfl) T.m_range (pa_cons (pe_op op_add (pv 3) pe_int) pa_nil)) (blkOk_by (own := [("k", 5)]) (N := ["parts", "found", "p", "many", "powers", "k", "g", "part"]) (sc := defScope sProducts) (by decide +kernel)) (fun _ _ _ _ _ => (pg_name (i := 5) scProducts.nd rfl (Or.inl rfl))) (fun _ _ _ _ _ => pts_nil) (fun _ _ _ _ _ => (pe_call (sp := spPower K) (okPower T) hr (by rfl) T.G_power T.F_power.kp T.B_power .nil pass0 (pa_cons (pv 2) (pa_cons (pv 5) pa_nil))))))
        (pss_one (ps_setLc2 (i := 1) (own := [("g", 6), ("part", 7)]) (vs1 := [7]) (g := gName 6) (g1 := gName 7) (tt := tYes) (tt1 := tYes) rfl scProducts.nd rfl rfl (sw_true rfl rfl rfl (by decide +kernel)) (piL K (pv 1)) (blkOk_by (own := [("g", 6), ("part", 7)]) (N := ["parts", "found", "p", "many", "powers", "k", "g", "part"]) (sc := defScope sProducts) (by decide +kernel)) (by decide) (fun _ _ _ _ _ => (pg_name (i := 6) scProducts.nd rfl (Or.inl rfl))) (fun _ _ _ _ _ => pts_nil) (fun _ _ _ _ _ => (piL K (pv 4))) (fun _ _ _ _ _ => (pg_name (i := 7) scProducts.nd rfl (Or.inl rfl))) (fun _ _ _ _ _ => pts_nil) (fun _ _ _ _ _ => (pe_op op_mulW (pv 6) (pv 7)))))))
      (pss_one (ps_ret (pv 1))))), ?_⟩
    clean_wf
    refine R.refs (S := SqL K _) (xs := as.map V.ref) (SqL.of (sn _ _ hA)) ?_
    refine for_list (K := K) (a := A) (xs := as.map V.ref) (fun i σ H' => ∃ (f : Addr) (x2 x3 x4 x5 x6 x7 : Option V), σ = [some (.ref A), some (.ref f), x2, x3, x4, x5, x6, x7] ∧ Same H H' ∧ H f = none ∧ H' f = some (.lst ((prdL (l.take i)).map V.int)))
      ⟨tn, _, _, _, _, _, _, rfl, sn, nn, ht⟩ (fun i σ H' hi hPv => ?_) (fun i x σ H' hx hPv => ?_) (fun σ H' hPv => ?_)
    · obtain ⟨f, x2, x3, x4, x5, x6, x7, rfl, sm, nf, hf⟩ := hPv
      exact SqL.of (sm _ _ hA)
    · obtain ⟨f, x2, x3, x4, x5, x6, x7, rfl, sm, nf, hf⟩ := hPv
      rw [List.getElem?_map] at hx
      cases ha : as[i]? with
      | none =>
        rw [ha] at hx
        cases hx
      | some t =>
        rw [ha] at hx
        cases hx
        have il : i < l.length := by
          have h1 := (List.getElem?_eq_some_iff.mp ha).1
          have h2 := hP.len
          unfold nats at h2
          rw [List.length_map] at h2
          omega
        obtain ⟨⟨p, k⟩, hpk⟩ : ∃ pk, l[i]? = some pk := ⟨_, List.getElem?_eq_getElem il⟩
        have hn : (nats l)[i]? = some ((p : Int), (k : Int)) := by
          unfold nats
          rw [List.getElem?_map, hpk]
          rfl
        obtain ⟨t', ht1, ht2⟩ := hP.at hn
        rw [ha] at ht1
        cases ht1
        obtain ⟨p1, k1⟩ := ok.p (p, k) (List.mem_of_getElem? hpk)
        have p1' : p < 1152921504606846976 := p1
        have st : SqT K H' t [.int (p : Int), .int (k : Int)] := SqT.of (sm _ _ ht2)
        have tk : l.take (i + 1) = l.take i ++ [(p, k)] := by
          rw [List.take_add_one, hpk]
          rfl
        have hL := ok.len (i + 1)
        have hB := ok.bd i
        have hB1 := ok.bd (i + 1)
        rw [tk, prdL_snoc] at hL hB1
        rw [tk, prdL_snoc]
        generalize prdL (l.take i) = F at *
        have hPw : ∀ q ∈ pwL p k, ∀ g ∈ F, g * q ∈ prdS F (p, k) := fun q hq g hg => List.mem_flatMap.mpr ⟨g, hg, List.mem_map.mpr ⟨q, hq, rfl⟩⟩
        clean_wf
        refine R.lcFR (lo := 0) (n := ((k : Int) + 1).toNat) (fun _ => true) (fun x => ((p ^ x.toNat : Nat) : Int)) (by omega) (fun j H2 C' E' hj s2 c1 c2 => ?_) (fun H2 D hD s2 nD => ?_)
        · have z := c1 rfl
          rw [show (0 + (j : Int)).toNat = j by omega] at z
          clean_wf
          refine ⟨rfl, R.yes ?_⟩
          clean_wf
          exact ⟨p, j, by rw [Int.zero_add]; rfl, by omega, by show j < 1152921504606846976; omega, z⟩
        · rw [rgI_pw] at hD
          have hf2 := s2 _ _ hf
          have sm2 := sm.trans s2
          clear hf hA hP st ht2 hn
          clean_wf
          refine ⟨_, rfl, f, rfl, ⟨_, SqL.of hf2⟩, fun D2 nD2 => ?_⟩
          refine out_list (K := K) (a := f) (xs := F.map V.int) (fun m H3 => Same H2 H3 ∧ H3 D2 = some (.lst (((F.take m).flatMap fun y => (pwL p k).map (y * ·)).map V.int))) ⟨same_upd nD2, upd_same⟩ (fun m H3 hm ⟨a1, a2⟩ => SqL.of (a1 _ _ hf2)) (fun m x H3 hx ⟨a1, a2⟩ => ?_) (fun H3 ⟨a1, a2⟩ => ?_)
          · rw [List.getElem?_map] at hx
            cases hn2 : F[m]? with
            | none =>
              rw [hn2] at hx
              cases hx
            | some y =>
              rw [hn2] at hx
              cases hx
              have tk2 : F.take (m + 1) = F.take m ++ [y] := by
                rw [List.take_add_one, hn2]
                rfl
              have by' := hB y (List.mem_of_getElem? hn2)
              refine ⟨rfl, ?_⟩
              dsimp only [tYes]
              rw [if_pos rfl]
              refine ⟨_, rfl, D, rfl, ⟨_, SqL.of (a1 _ _ hD)⟩, ?_⟩
              refine out_list (K := K) (a := D) (xs := (pwL p k).map V.int) (fun t H4 => Same H2 H4 ∧ H4 D2 = some (.lst ((((F.take m).flatMap fun y => (pwL p k).map (y * ·)) ++ ((pwL p k).take t).map (y * ·)).map V.int))) ⟨a1, ?_⟩ (fun t H4 ht ⟨c1, c2⟩ => SqL.of (c1 _ _ hD)) (fun t x H4 hx ⟨c1, c2⟩ => ?_) (fun H4 ⟨c1, c2⟩ => ⟨c1, ?_⟩)
              · rw [a2]
                simp
              · rw [List.getElem?_map] at hx
                cases hn3 : (pwL p k)[t]? with
                | none =>
                  rw [hn3] at hx
                  cases hx
                | some o =>
                  rw [hn3] at hx
                  cases hx
                  have tk3 : (pwL p k).take (t + 1) = (pwL p k).take t ++ [o] := by
                    rw [List.take_add_one, hn3]
                    rfl
                  have bo : Bd 60000 o := by
                    have ho := List.mem_of_getElem? hn3
                    unfold pwL at ho
                    obtain ⟨j, hj, rfl⟩ := List.mem_map.mp ho
                    have hj := List.mem_range.mp hj
                    show (((p ^ j : Nat) : Int)).natAbs < 2 ^ 60000
                    rw [Int.natAbs_natCast]
                    refine Nat.lt_of_le_of_lt (Nat.pow_le_pow_left (Nat.le_of_lt p1) j) ?_
                    rw [← Nat.pow_mul]
                    exact Nat.pow_lt_pow_right (by decide) (by omega)
                  refine ⟨rfl, ?_⟩
                  dsimp only [tYes]
                  rw [if_pos rfl]
                  refine ⟨_, rfl, _, rfl, _, _, rfl, rfl, by'.mulW bo (by decide), _, c2, ?_, fun b o e => ?_, ?_⟩
                  · rw [List.length_map, List.length_append, List.length_map, List.length_take]
                    have l1 : ((F.take m).flatMap fun y => (pwL p k).map (y * ·)).length = (F.take m).length * (k + 1) := prdS_len _ (p, k)
                    rw [prdS_len] at hL
                    rw [l1, List.length_take, pwL_len]
                    have l0 : m < F.length := (List.getElem?_eq_some_iff.mp hn2).1
                    have t0 : t < (pwL p k).length := (List.getElem?_eq_some_iff.mp hn3).1
                    rw [pwL_len] at t0
                    have l2 : (m + 1) * (k + 1) ≤ F.length * (k + 1) := Nat.mul_le_mul_right _ l0
                    rw [Nat.min_eq_left (by omega), Nat.min_eq_left (by omega)]
                    rw [Nat.succ_mul] at l2
                    replace hL : F.length * (k + 1) ≤ 100000 := hL
                    exact Nat.lt_of_lt_of_le (show m * (k + 1) + t < 100001 by omega) (by decide)
                  · rw [upd_ne (ne_of_none e nD2)]
                    exact c1 _ _ e
                  · have e5 : ((F.take m).flatMap fun y => (pwL p k).map (y * ·)) ++ ((pwL p k).take (t + 1)).map (y * ·) = (((F.take m).flatMap fun y => (pwL p k).map (y * ·)) ++ ((pwL p k).take t).map (y * ·)) ++ [y * o] := by
                      rw [tk3, List.map_append, List.append_assoc]
                      rfl
                    rw [upd_same, e5]
                    exact congrArg (fun z => some (HO.lst z)) (List.map_append (f := V.int) (l₂ := [y * o])).symm
              · rw [List.length_map, List.take_length] at c2
                rw [c2, tk2, List.flatMap_append, List.flatMap_cons, List.flatMap_nil, List.append_nil]
          · rw [List.length_map, List.take_length] at a2
            clean_wf
            refine ⟨D2, _, _, _, _, _, _, rfl, sm2.trans a1, Same.free sm2 nD2, a2⟩
    · obtain ⟨f, x2, x3, x4, x5, x6, x7, rfl, sm, nf, hf⟩ := hPv
      have el : l.take (as.map V.ref).length = l := by
        have h2 := hP.len
        unfold nats at h2
        rw [List.length_map] at h2
        rw [List.length_map, h2]
        exact List.take_length
      rw [el] at hf
      clean_wf
      exact kk _ _ sm nf hf
def spHalved (_ : PySem.W.Frag) : Sp := fun vs H Q _ => ∃ (A : Addr) (as : List Addr) (l : List (Nat × Nat)), vs = [.ref A] ∧ H A = some (.lst (as.map V.ref)) ∧ Prs H as (nats l) ∧ l.length ≤ 100 ∧ (∀ x ∈ l, x.1 < 2 ^ 59 ∧ x.2 < 2 ^ 59) ∧
  ∀ H' D bs, Same H H' → H D = none → H' D = some (.lst (bs.map V.ref)) → Prs H' bs (nats (hvL l)) → Q (.ref D) H'
theorem okHalved (T : Txt K mg fa fd) : FnOk P w K mg base CX0 1 (fa 12) (fd 12) ["parts"] (spHalved K) := by
  refine T.F_halved.ok scHalved (fun vs H Q E h => ?_) (fun cdv A outer s H vs Q E hr h => ?_)
  · obtain ⟨A, as, l, rfl, hA, hP, ln, sm, kk⟩ := h
    rfl
  · obtain ⟨A, as, l, rfl, hA, hP, ln, sm, kk⟩ := h
    refine ⟨_, (pss_one (ps_ret (pe_lc (own := [("p", 1), ("many", 2)])  (tt := tYes) rfl scHalved.nd (piL K (pv 0)) (blkOk_by (own := [("p", 1), ("many", 2)]) (N := ["parts", "p", "many"]) (sc := defScope sHalved) (by decide +kernel)) (fun _ _ _ _ _ => (pgT K 2 (by rfl) (pgs_cons (pg_name (i := 1) scHalved.nd rfl (Or.inl rfl)) (pgs_cons (pg_name (i := 2) scHalved.nd rfl (Or.inl rfl)) pgs_nil)))) (fun _ _ _ _ _ => pts_nil) (fun _ _ _ _ _ => (pe_tup (pa_cons (pv 1) (pa_cons (pe_op op_fdivX (pv 2) pe_int) pa_nil))))))), ?_⟩
    have al := hP.len
    unfold nats at al
    rw [List.length_map] at al
    clean_wf
    refine R.refs (S := SqL K _) (xs := as.map V.ref) (SqL.of hA) ?_
    refine R.lcPr (fun i => (((l.getD i (0, 0)).1 : Int), (((l.getD i (0, 0)).2 / 2 : Nat) : Int))) (by rw [List.length_map]; omega) (SqL.of hA) (fun i x H1 Q1 hx s1 q1 => ?_) (fun H1 D bs hD hb s1 nD => ?_)
    · rw [List.getElem?_map] at hx
      cases ha : as[i]? with
      | none =>
        rw [ha] at hx
        cases hx
      | some t =>
        rw [ha] at hx
        cases hx
        have il : i < l.length := by
          have h1 := (List.getElem?_eq_some_iff.mp ha).1
          omega
        obtain ⟨⟨p, k⟩, hpk⟩ : ∃ pk, l[i]? = some pk := ⟨_, List.getElem?_eq_getElem il⟩
        have hn : (nats l)[i]? = some ((p : Int), (k : Int)) := by
          unfold nats
          rw [List.getElem?_map, hpk]
          rfl
        obtain ⟨t', ht1, ht2⟩ := hP.at hn
        rw [ha] at ht1
        cases ht1
        rw [List.getD_eq_getElem?_getD, hpk] at q1
        obtain ⟨p1, k1⟩ := sm (p, k) (List.mem_of_getElem? hpk)
        have st : SqT K H1 t [.int (p : Int), .int (k : Int)] := SqT.of (s1 _ _ ht2)
        have bk : Bd 60 (k : Int) := Bd.om (by omega)
        clean_wf
        refine ⟨rfl, ?_⟩
        clean_wf
        have ek : ((k : Int)).fdiv 2 = ((k / 2 : Nat) : Int) := by
          rw [Int.fdiv_eq_ediv_of_nonneg _ (by decide)]
          omega
        rw [ek] at ht
        exact q1 _ _ sn ht
    · refine kk _ D bs s1 nD hD ?_
      have e : nats (hvL l) = (List.range (as.map V.ref).length).map fun i => (((l.getD i (0, 0)).1 : Int), (((l.getD i (0, 0)).2 / 2 : Nat) : Int)) := by
        unfold nats hvL
        rw [List.map_map, List.length_map, al]
        refine List.ext_getElem (by simp) fun i h1 h2 => ?_
        have hi : i < l.length := by simpa using h1
        rw [List.getElem_map, List.getElem_map, List.getElem_range, List.getD_eq_getElem?_getD, List.getElem?_eq_getElem hi]
        rfl
      rw [e]
      exact hb
def spSquareMeasures (_ : PySem.W.Frag) : Sp := fun vs H Q _ => ∃ (n : Int) (l : List (Nat × Nat)), vs = [.int n] ∧ n ≠ 0 ∧ n.natAbs < 2 ^ 59 ∧ SqOk n.natAbs l ∧
  ∀ (H' : Hp) (r : Addr) (gs : List Int), Same H H' → H r = none → H' r = some (.lst (gs.map V.int)) → gs.Nodup → gs.Pairwise (· ≤ ·) → (∀ g, g ∈ gs ↔ 0 < g ∧ g * g ∣ n) → gs.length ≤ 20 → Q (.ref r) H'
theorem okSquareMeasures (T : Txt K mg fa fd) : FnOk P w K mg base CX0 5 (fa 11) (fd 11) ["n"] (spSquareMeasures K) := by
  refine T.F_square_measures.ok scSquareMeasures (fun vs H Q E h => ?_) (fun cdv A outer s H vs Q E hr h => ?_)
  · obtain ⟨n, l, rfl, n0, n1, ok, kk⟩ := h
    rfl
  · obtain ⟨n, l, rfl, n0, n1, ok, kk⟩ := h
    refine ⟨_, (pss_one (ps_ret (pe_callB (srtQ K) (by rfl) T.m_sorted (by decide +kernel) (pa_cons (pe_call (sp := spProducts K) (okProducts T) (hr.mono (by decide)) (by rfl) T.G_products T.F_products.kp T.B_products .nil pass0 (pa_cons (pe_call (sp := spHalved K) (okHalved T) (hr.mono (by decide)) (by rfl) T.G_halved T.F_halved.kp T.B_halved .nil pass0 (pa_cons (pe_call (sp := spPrimeParts K) (okPrimeParts T) hr (by rfl) T.G_prime_parts T.F_prime_parts.kp T.B_prime_parts .nil pass0 (pa_cons (pe_callB (absQ K) (by rfl) T.m_abs (by decide +kernel) (pa_cons (pv 0) pa_nil)) pa_nil)) pa_nil)) pa_nil)) pa_nil)))), ?_⟩
    clean_wf
    refine ⟨n.natAbs, l, rfl, by omega, n1, ok.pp, fun H1 A as s1 nA hA hP hl => ?_⟩
    clean_wf
    refine ⟨A, as, l, rfl, hA, hP, ok.ln, ok.sm, fun H2 D bs s2 nD hD hb => ?_⟩
    clean_wf
    refine ⟨D, bs, hvL l, rfl, hD, hb, ok.ok, fun H3 r s3 nr hr => ?_⟩
    clean_wf
    refine R.srt (SqL.of hr) (fun ns H4 p pm pw s4 n4 h4 => ?_)
    have s13 := (s1.trans s2).trans s3
    refine kk _ p ns (s13.trans s4) (Same.free s13 n4) h4 (pm.nodup_iff.mpr ok.nd) pw (fun g => ?_) (by rw [pm.length_eq]; exact ok.few)
    rw [pm.mem_iff, ok.mem, Int.dvd_natAbs]
def spDiscriminant (K : PySem.W.Frag) : Sp := fun vs H Q _ => ∃ (aform : Addr) (a b c : Int) (N : Nat), vs = [.ref aform] ∧ SqT K H aform [.int a, .int b, .int c] ∧ Bd N a ∧ Bd N b ∧ Bd N c ∧ N ≤ 400000 ∧ (Q (.int (b * b - 4 * a * c)) H)
theorem uDiscriminant {K : PySem.W.Frag} {H : Hp} {Q : VK} {E : XK} {vs : List V} {aform : Addr} {a b c : Int} {n0 n1 n2 : Nat} (hev : vs = [.ref aform]) (s0 : SqT K H aform [.int a, .int b, .int c]) (b0 : Bd n0 a) (b1 : Bd n1 b) (b2 : Bd n2 c) (hll : (n0 + n1 + n2 ≤ 400000) = True) (kk : Q (.int (b * b - 4 * a * c)) H) : spDiscriminant K vs H Q E :=
  have hll := of_eq_true hll
  ⟨aform, a, b, c, n0 + n1 + n2, hev, s0, b0.mono (by omega), b1.mono (by omega), b2.mono (by omega), hll, kk⟩
theorem okDiscriminant (T : Txt K mg fa fd) : FnOk P w K mg base CX0 1 (fa 14) (fd 14) ["form"] (spDiscriminant K) := by
  refine T.F_discriminant.ok scDiscriminant (fun vs H Q E h => ?_) (fun cdv A outer s H vs Q E hr h => ?_)
  · obtain ⟨aform, a, b, c, N, rfl, h_aform, b_a, b_b, b_c, hN, kk⟩ := h
    rfl
  · obtain ⟨aform, a, b, c, N, rfl, h_aform, b_a, b_b, b_c, hN, kk⟩ := h
    refine ⟨_, (pss_cons (ps_asg (pv 0) (pgT K 3 (by rfl) (pgs_cons (pg_name (i := 1) scDiscriminant.nd rfl (Or.inl rfl)) (pgs_cons (pg_name (i := 2) scDiscriminant.nd rfl (Or.inl rfl)) (pgs_cons (pg_name (i := 3) scDiscriminant.nd rfl (Or.inl rfl)) pgs_nil)))))
      (pss_one (ps_ret (pe_op op_sub (pe_op op_mulW (pv 2) (pv 2)) (pe_op op_mulW (pe_op op_mulW pe_int (pv 1)) (pv 3)))))), ?_⟩
    clean_wf
    all_goals first | omega | exact kk | (refine kk _ _ ?_ (by assumption); (repeat' (first | with_reducible exact Same.refl _ | with_reducible assumption | ((with_reducible apply sameB); with_reducible assumption))))
def spContent (K : PySem.W.Frag) : Sp := fun vs H Q _ => ∃ (af : Addr) (a b c : Int), vs = [.ref af] ∧ SqT K H af [.int a, .int b, .int c] ∧ Q (.int (gL [a, b, c])) H
theorem uContent {K : PySem.W.Frag} {H : Hp} {Q : VK} {E : XK} {vs : List V} {af : Addr} {a b c : Int} (e : vs = [.ref af]) (hs : SqT K H af [.int a, .int b, .int c]) (kk : Q (.int (gL [a, b, c])) H) : spContent K vs H Q E := ⟨af, a, b, c, e, hs, kk⟩
theorem okContent (T : Txt K mg fa fd) : FnOk P w K mg base CX0 2 (fa 15) (fd 15) ["form"] (spContent K) := by
  refine T.F_content.ok scContent (fun vs H Q E h => ?_) (fun cdv A outer s H vs Q E hr h => ?_)
  · obtain ⟨af, a, b, c, rfl, hs, kk⟩ := h
    rfl
  · obtain ⟨af, a, b, c, rfl, hs, kk⟩ := h
    refine ⟨_, (pss_one (ps_ret (pe_call (sp := spMeasure K) (okMeasure T) hr (by rfl) T.G_measure T.F_measure.kp T.B_measure .nil pass0 (pa_cons (pv 0) pa_nil)))), ?_⟩
    clean_wf
    exact ⟨af, [a, b, c], rfl, .inr hs, kk⟩
def spWorth (K : PySem.W.Frag) : Sp := fun vs H Q _ => ∃ (aform apoint : Addr) (a b c x y : Int) (N : Nat), vs = [.ref aform, .ref apoint] ∧ SqT K H aform [.int a, .int b, .int c] ∧ SqT K H apoint [.int x, .int y] ∧ Bd N a ∧ Bd N b ∧ Bd N c ∧ Bd N x ∧ Bd N y ∧ N ≤ 300000 ∧ (Q (.int (a * x * x + b * x * y + c * y * y)) H)
theorem uWorth {K : PySem.W.Frag} {H : Hp} {Q : VK} {E : XK} {vs : List V} {aform apoint : Addr} {a b c x y : Int} {n0 n1 n2 n3 n4 : Nat} (hev : vs = [.ref aform, .ref apoint]) (s0 : SqT K H aform [.int a, .int b, .int c]) (s1 : SqT K H apoint [.int x, .int y]) (b0 : Bd n0 a) (b1 : Bd n1 b) (b2 : Bd n2 c) (b3 : Bd n3 x) (b4 : Bd n4 y) (hll : (n0 + n1 + n2 + n3 + n4 ≤ 300000) = True) (kk : Q (.int (a * x * x + b * x * y + c * y * y)) H) : spWorth K vs H Q E :=
  have hll := of_eq_true hll
  ⟨aform, apoint, a, b, c, x, y, n0 + n1 + n2 + n3 + n4, hev, s0, s1, b0.mono (by omega), b1.mono (by omega), b2.mono (by omega), b3.mono (by omega), b4.mono (by omega), hll, kk⟩
theorem okWorth (T : Txt K mg fa fd) : FnOk P w K mg base CX0 1 (fa 16) (fd 16) ["form", "point"] (spWorth K) := by
  refine T.F_worth.ok scWorth (fun vs H Q E h => ?_) (fun cdv A outer s H vs Q E hr h => ?_)
  · obtain ⟨aform, apoint, a, b, c, x, y, N, rfl, h_aform, h_apoint, b_a, b_b, b_c, b_x, b_y, hN, kk⟩ := h
    rfl
  · obtain ⟨aform, apoint, a, b, c, x, y, N, rfl, h_aform, h_apoint, b_a, b_b, b_c, b_x, b_y, hN, kk⟩ := h
    refine ⟨_, (pss_cons (ps_asg (pv 0) (pgT K 3 (by rfl) (pgs_cons (pg_name (i := 2) scWorth.nd rfl (Or.inl rfl)) (pgs_cons (pg_name (i := 3) scWorth.nd rfl (Or.inl rfl)) (pgs_cons (pg_name (i := 4) scWorth.nd rfl (Or.inl rfl)) pgs_nil)))))
      (pss_cons (ps_asg (pv 1) (pgT K 2 (by rfl) (pgs_cons (pg_name (i := 5) scWorth.nd rfl (Or.inl rfl)) (pgs_cons (pg_name (i := 6) scWorth.nd rfl (Or.inl rfl)) pgs_nil))))
      (pss_one (ps_ret (pe_op op_add (pe_op op_add (pe_op op_mulW (pe_op op_mulW (pv 2) (pv 5)) (pv 5)) (pe_op op_mulW (pe_op op_mulW (pv 3) (pv 5)) (pv 6))) (pe_op op_mulW (pe_op op_mulW (pv 4) (pv 6)) (pv 6))))))), ?_⟩
    clean_wf
    all_goals first | omega | exact kk | (refine kk _ _ ?_ (by assumption); (repeat' (first | with_reducible exact Same.refl _ | with_reducible assumption | ((with_reducible apply sameB); with_reducible assumption))))
def spAct (K : PySem.W.Frag) : Sp := fun vs H Q _ => ∃ (aform am : Addr) (a b c p q r s : Int) (N : Nat), vs = [.ref aform, .ref am] ∧ SqT K H aform [.int a, .int b, .int c] ∧ SqT K H am [.int p, .int q, .int r, .int s] ∧ Bd N a ∧ Bd N b ∧ Bd N c ∧ Bd N p ∧ Bd N q ∧ Bd N r ∧ Bd N s ∧ N ≤ 40000 ∧ (R.Nw H [.int (a * p * p + b * p * r + c * r * r), .int (2 * a * p * q + b * (p * s + q * r) + 2 * c * r * s), .int (a * q * q + b * q * s + c * s * s)] Q)
theorem uAct {K : PySem.W.Frag} {H : Hp} {Q : VK} {E : XK} {vs : List V} {aform am : Addr} {a b c p q r s : Int} {n0 n1 n2 n3 n4 n5 n6 : Nat} (hev : vs = [.ref aform, .ref am]) (s0 : SqT K H aform [.int a, .int b, .int c]) (s1 : SqT K H am [.int p, .int q, .int r, .int s]) (b0 : Bd n0 a) (b1 : Bd n1 b) (b2 : Bd n2 c) (b3 : Bd n3 p) (b4 : Bd n4 q) (b5 : Bd n5 r) (b6 : Bd n6 s) (hll : (n0 + n1 + n2 + n3 + n4 + n5 + n6 ≤ 40000) = True) (kk : R.Nw H [.int (a * p * p + b * p * r + c * r * r), .int (2 * a * p * q + b * (p * s + q * r) + 2 * c * r * s), .int (a * q * q + b * q * s + c * s * s)] Q) : spAct K vs H Q E :=
  have hll := of_eq_true hll
  ⟨aform, am, a, b, c, p, q, r, s, n0 + n1 + n2 + n3 + n4 + n5 + n6, hev, s0, s1, b0.mono (by omega), b1.mono (by omega), b2.mono (by omega), b3.mono (by omega), b4.mono (by omega), b5.mono (by omega), b6.mono (by omega), hll, kk⟩
theorem okAct (T : Txt K mg fa fd) : FnOk P w K mg base CX0 2 (fa 17) (fd 17) ["form", "m"] (spAct K) := by
  refine T.F_act.ok scAct (fun vs H Q E h => ?_) (fun cdv A outer s H vs Q E hr h => ?_)
  · obtain ⟨aform, am, a, b, c, p, q, r, s, N, rfl, h_aform, h_am, b_a, b_b, b_c, b_p, b_q, b_r, b_s, hN, kk⟩ := h
    rfl
  · obtain ⟨aform, am, a, b, c, p, q, r, s, N, rfl, h_aform, h_am, b_a, b_b, b_c, b_p, b_q, b_r, b_s, hN, kk⟩ := h
    refine ⟨_, (pss_cons (ps_asg (pv 0) (pgT K 3 (by rfl) (pgs_cons (pg_name (i := 2) scAct.nd rfl (Or.inl rfl)) (pgs_cons (pg_name (i := 3) scAct.nd rfl (Or.inl rfl)) (pgs_cons (pg_name (i := 4) scAct.nd rfl (Or.inl rfl)) pgs_nil)))))
      (pss_cons (ps_asg (pv 1) (pgT K 4 (by rfl) (pgs_cons (pg_name (i := 5) scAct.nd rfl (Or.inl rfl)) (pgs_cons (pg_name (i := 6) scAct.nd rfl (Or.inl rfl)) (pgs_cons (pg_name (i := 7) scAct.nd rfl (Or.inl rfl)) (pgs_cons (pg_name (i := 8) scAct.nd rfl (Or.inl rfl)) pgs_nil))))))
      (pss_cons (ps_set (i := 9) scAct.nd rfl (Or.inl rfl) (pe_op op_add (pe_op op_add (pe_op op_mulW (pe_op op_mulW (pe_op op_mulW pe_int (pv 2)) (pv 5)) (pv 6)) (pe_op op_mulW (pv 3) (pe_op op_add (pe_op op_mulW (pv 5) (pv 8)) (pe_op op_mulW (pv 6) (pv 7))))) (pe_op op_mulW (pe_op op_mulW (pe_op op_mulW pe_int (pv 4)) (pv 7)) (pv 8))))
      (pss_one (ps_ret (pe_tup (pa_cons (pe_call (sp := spWorth K) (okWorth T) hr (by rfl) T.G_worth T.F_worth.kp T.B_worth .nil pass0 (pa_cons (pv 0) (pa_cons (pe_tup (pa_cons (pv 5) (pa_cons (pv 7) pa_nil))) pa_nil))) (pa_cons (pv 9) (pa_cons (pe_call (sp := spWorth K) (okWorth T) hr (by rfl) T.G_worth T.F_worth.kp T.B_worth .nil pass0 (pa_cons (pv 0) (pa_cons (pe_tup (pa_cons (pv 6) (pa_cons (pv 8) pa_nil))) pa_nil))) pa_nil))))))))), ?_⟩
    clean_wf
    all_goals first | omega | exact kk | (refine kk _ _ ?_ (by assumption); (repeat' (first | with_reducible exact Same.refl _ | with_reducible assumption | ((with_reducible apply sameB); with_reducible assumption))))
def spScaled (K : PySem.W.Frag) : Sp := fun vs H Q _ => ∃ (aform : Addr) (a b c number : Int) (N : Nat), vs = [.ref aform, .int number] ∧ SqT K H aform [.int a, .int b, .int c] ∧ Bd N a ∧ Bd N b ∧ Bd N c ∧ Bd N number ∧ N ≤ 400000 ∧ (R.Nw H [.int (a * number), .int (b * number), .int (c * number)] Q)
theorem uScaled {K : PySem.W.Frag} {H : Hp} {Q : VK} {E : XK} {vs : List V} {aform : Addr} {a b c number : Int} {n0 n1 n2 n3 : Nat} (hev : vs = [.ref aform, .int number]) (s0 : SqT K H aform [.int a, .int b, .int c]) (b0 : Bd n0 a) (b1 : Bd n1 b) (b2 : Bd n2 c) (b3 : Bd n3 number) (hll : (n0 + n1 + n2 + n3 ≤ 400000) = True) (kk : R.Nw H [.int (a * number), .int (b * number), .int (c * number)] Q) : spScaled K vs H Q E :=
  have hll := of_eq_true hll
  ⟨aform, a, b, c, number, n0 + n1 + n2 + n3, hev, s0, b0.mono (by omega), b1.mono (by omega), b2.mono (by omega), b3.mono (by omega), hll, kk⟩
theorem okScaled (T : Txt K mg fa fd) : FnOk P w K mg base CX0 1 (fa 18) (fd 18) ["form", "number"] (spScaled K) := by
  refine T.F_scaled.ok scScaled (fun vs H Q E h => ?_) (fun cdv A outer s H vs Q E hr h => ?_)
  · obtain ⟨aform, a, b, c, number, N, rfl, h_aform, b_a, b_b, b_c, b_number, hN, kk⟩ := h
    rfl
  · obtain ⟨aform, a, b, c, number, N, rfl, h_aform, b_a, b_b, b_c, b_number, hN, kk⟩ := h
    refine ⟨_, (pss_cons (ps_asg (pv 0) (pgT K 3 (by rfl) (pgs_cons (pg_name (i := 2) scScaled.nd rfl (Or.inl rfl)) (pgs_cons (pg_name (i := 3) scScaled.nd rfl (Or.inl rfl)) (pgs_cons (pg_name (i := 4) scScaled.nd rfl (Or.inl rfl)) pgs_nil)))))
      (pss_one (ps_ret (pe_tup (pa_cons (pe_op op_mulW (pv 2) (pv 1)) (pa_cons (pe_op op_mulW (pv 3) (pv 1)) (pa_cons (pe_op op_mulW (pv 4) (pv 1)) pa_nil))))))), ?_⟩
    clean_wf
    all_goals first | omega | exact kk | (refine kk _ _ ?_ (by assumption); (repeat' (first | with_reducible exact Same.refl _ | with_reducible assumption | ((with_reducible apply sameB); with_reducible assumption))))
def spDivided (K : PySem.W.Frag) : Sp := fun vs H Q _ => ∃ (af : Addr) (a b c g : Int), vs = [.ref af, .int g] ∧ SqT K H af [.int a, .int b, .int c] ∧ g ≠ 0 ∧ Bd 9000 g ∧ R.Nw H [.int (a.fdiv g), .int (b.fdiv g), .int (c.fdiv g)] Q
theorem uDivided {K : PySem.W.Frag} {H : Hp} {Q : VK} {E : XK} {vs : List V} {af : Addr} {a b c g : Int} {n : Nat} (hev : vs = [.ref af, .int g]) (hs : SqT K H af [.int a, .int b, .int c]) (g0 : g ≠ 0) (bg : Bd n g) (l : Nat.ble n 9000 = true) (kk : R.Nw H [.int (a.fdiv g), .int (b.fdiv g), .int (c.fdiv g)] Q) : spDivided K vs H Q E := ⟨af, a, b, c, g, hev, hs, g0, bdm bg l, kk⟩
theorem okDivided (T : Txt K mg fa fd) : FnOk P w K mg base CX0 1 (fa 19) (fd 19) ["form", "number"] (spDivided K) := by
  refine T.F_divided.ok scDivided (fun vs H Q E h => ?_) (fun cdv A outer s H vs Q E hr h => ?_)
  · obtain ⟨af, a, b, c, g, rfl, hs, g0, bg, kk⟩ := h
    rfl
  · obtain ⟨af, a, b, c, g, rfl, hs, g0, bg, kk⟩ := h
    refine ⟨_, (pss_cons (ps_asg (pv 0) (pgT K 3 (by rfl) (pgs_cons (pg_name (i := 2) scDivided.nd rfl (Or.inl rfl)) (pgs_cons (pg_name (i := 3) scDivided.nd rfl (Or.inl rfl)) (pgs_cons (pg_name (i := 4) scDivided.nd rfl (Or.inl rfl)) pgs_nil)))))
      (pss_one (ps_ret (pe_tup (pa_cons (pe_op op_fdivX (pv 2) (pv 1)) (pa_cons (pe_op op_fdivX (pv 3) (pv 1)) (pa_cons (pe_op op_fdivX (pv 4) (pv 1)) pa_nil))))))), ?_⟩
    clean_wf
    all_goals first | omega | exact kk | (refine kk _ _ ?_ (by assumption); (repeat' (first | with_reducible exact Same.refl _ | with_reducible assumption | ((with_reducible apply sameB); with_reducible assumption))))
def spKind (K : PySem.W.Frag) : Sp := fun vs H Q _ => ∃ (af : Addr) (a b c : Int), vs = [.ref af] ∧ SqT K H af [.int a, .int b, .int c] ∧ Bd 3000 a ∧ Bd 3000 b ∧ Bd 3000 c ∧ Q (.str (kindS (dsc a b c))) H
theorem uKind {K : PySem.W.Frag} {H : Hp} {Q : VK} {E : XK} {vs : List V} {af : Addr} {a b c : Int} (hev : vs = [.ref af]) (hs : SqT K H af [.int a, .int b, .int c]) (b1 : Bd 3000 a) (b2 : Bd 3000 b) (b3 : Bd 3000 c) (kk : Q (.str (kindS (dsc a b c))) H) : spKind K vs H Q E := ⟨af, a, b, c, hev, hs, b1, b2, b3, kk⟩
theorem kindS_lt {d : Int} (h : d < 0) : kindS d = "definite" := by unfold kindS; rw [if_pos h]
theorem kindS_eq {d : Int} (h : d = 0) : kindS d = "flat" := by unfold kindS; rw [if_neg (by omega), if_pos h]
theorem kindS_sq {d : Int} (h : ¬ d < 0) (h2 : ¬ d = 0) (h3 : 0 ≤ d ∧ rootI d * rootI d = d) : kindS d = "split" := by unfold kindS; rw [if_neg h, if_neg h2, if_pos h3.2]
theorem kindS_ns {d : Int} (h : ¬ d < 0) (h2 : ¬ d = 0) (h3 : ¬ (0 ≤ d ∧ rootI d * rootI d = d)) : kindS d = "indefinite" := by unfold kindS; rw [if_neg h, if_neg h2, if_neg (fun k => h3 ⟨by omega, k⟩)]
theorem okKind (T : Txt K mg fa fd) : FnOk P w K mg base CX0 3 (fa 20) (fd 20) ["form"] (spKind K) := by
  refine T.F_kind.ok scKind (fun vs H Q E h => ?_) (fun cdv A outer s H vs Q E hr h => ?_)
  · obtain ⟨af, a, b, c, rfl, hs, b1, b2, b3, kk⟩ := h
    rfl
  · obtain ⟨af, a, b, c, rfl, hs, b1, b2, b3, kk⟩ := h
    refine ⟨_, (pss_cons (ps_set (i := 1) scKind.nd rfl (Or.inl rfl) (pe_call (sp := spDiscriminant K) (okDiscriminant T) (hr.mono (by decide)) (by rfl) T.G_discriminant T.F_discriminant.kp T.B_discriminant .nil pass0 (pa_cons (pv 0) pa_nil)))
      (pss_cons (ps_if (pt_cmp (pc_lt (pv 1) pe_int))
      (pss_one (ps_ret pe_str))
      pss_nil)
      (pss_cons (ps_if (pt_cmp (pc_eqI (pv 1) pe_int))
      (pss_one (ps_ret pe_str))
      pss_nil)
      (pss_one (ps_ret (pe_ifExp (pt_val (pe_call (sp := spIsSquare K) (okIsSquare T) hr (by rfl) T.G_is_square T.F_is_square.kp T.B_is_square .nil pass0 (pa_cons (pv 1) pa_nil))) pe_str pe_str)))))), ?_⟩
    have bd : Bd 6010 (dsc a b c) := by unfold dsc; apply bdm; clean_wf
    have ed : b * b - 4 * a * c = dsc a b c := rfl
    clean_wf
    rw [ed]
    generalize dsc a b c = d at *
    refine way2 (fun z => ?_) (fun z => ?_)
    · rw [kindS_lt z] at kk
      clean_wf
    clean_wf
    refine way2 (fun z2 => ?_) (fun z2 => ?_)
    · rw [kindS_eq z2] at kk
      clean_wf
    clean_wf
    refine way2 (fun z3 => ?_) (fun z3 => ?_)
    · rw [kindS_sq z z2 z3] at kk
      clean_wf
    · rw [kindS_ns z z2 z3] at kk
      clean_wf
def spUnitChange (K : PySem.W.Frag) : Sp := fun vs H Q _ => ∃ (aform : Addr) (a b c t u : Int) (N : Nat), vs = [.ref aform, .int t, .int u] ∧ SqT K H aform [.int a, .int b, .int c] ∧ Bd N a ∧ Bd N b ∧ Bd N c ∧ Bd N t ∧ Bd N u ∧ N ≤ 400000 ∧ (R.Nw H [.int ((t - b * u) / 2), .int (-c * u), .int (a * u), .int ((t + b * u) / 2)] Q)
theorem uUnitChange {K : PySem.W.Frag} {H : Hp} {Q : VK} {E : XK} {vs : List V} {aform : Addr} {a b c t u : Int} {n0 n1 n2 n3 n4 : Nat} (hev : vs = [.ref aform, .int t, .int u]) (s0 : SqT K H aform [.int a, .int b, .int c]) (b0 : Bd n0 a) (b1 : Bd n1 b) (b2 : Bd n2 c) (b3 : Bd n3 t) (b4 : Bd n4 u) (hll : (n0 + n1 + n2 + n3 + n4 ≤ 400000) = True) (kk : R.Nw H [.int ((t - b * u) / 2), .int (-c * u), .int (a * u), .int ((t + b * u) / 2)] Q) : spUnitChange K vs H Q E :=
  have hll := of_eq_true hll
  ⟨aform, a, b, c, t, u, n0 + n1 + n2 + n3 + n4, hev, s0, b0.mono (by omega), b1.mono (by omega), b2.mono (by omega), b3.mono (by omega), b4.mono (by omega), hll, kk⟩
theorem okUnitChange (T : Txt K mg fa fd) : FnOk P w K mg base CX0 1 (fa 21) (fd 21) ["form", "t", "u"] (spUnitChange K) := by
  refine T.F_unit_change.ok scUnitChange (fun vs H Q E h => ?_) (fun cdv A outer s H vs Q E hr h => ?_)
  · obtain ⟨aform, a, b, c, t, u, N, rfl, h_aform, b_a, b_b, b_c, b_t, b_u, hN, kk⟩ := h
    rfl
  · obtain ⟨aform, a, b, c, t, u, N, rfl, h_aform, b_a, b_b, b_c, b_t, b_u, hN, kk⟩ := h
    refine ⟨_, (pss_cons (ps_asg (pv 0) (pgT K 3 (by rfl) (pgs_cons (pg_name (i := 3) scUnitChange.nd rfl (Or.inl rfl)) (pgs_cons (pg_name (i := 4) scUnitChange.nd rfl (Or.inl rfl)) (pgs_cons (pg_name (i := 5) scUnitChange.nd rfl (Or.inl rfl)) pgs_nil)))))
      (pss_one (ps_ret (pe_tup (pa_cons (pe_op op_fdiv (pe_op op_sub (pv 1) (pe_op op_mulW (pv 4) (pv 2))) pe_int) (pa_cons (pe_op op_mulW (pe_un un_neg (pv 5)) (pv 2)) (pa_cons (pe_op op_mulW (pv 3) (pv 2)) (pa_cons (pe_op op_fdiv (pe_op op_add (pv 1) (pe_op op_mulW (pv 4) (pv 2))) pe_int) pa_nil)))))))), ?_⟩
    clean_wf
    all_goals first | omega | exact kk | (refine kk _ _ ?_ (by assumption); (repeat' (first | with_reducible exact Same.refl _ | with_reducible assumption | ((with_reducible apply sameB); with_reducible assumption))))
def spMultiply (K : PySem.W.Frag) : Sp := fun vs H Q _ => ∃ (am an : Addr) (p q r s p2 q2 r2 s2 : Int) (N : Nat), vs = [.ref am, .ref an] ∧ SqT K H am [.int p, .int q, .int r, .int s] ∧ SqT K H an [.int p2, .int q2, .int r2, .int s2] ∧ Bd N p ∧ Bd N q ∧ Bd N r ∧ Bd N s ∧ Bd N p2 ∧ Bd N q2 ∧ Bd N r2 ∧ Bd N s2 ∧ N ≤ 400000 ∧ (R.Nw H [.int (p * p2 + q * r2), .int (p * q2 + q * s2), .int (r * p2 + s * r2), .int (r * q2 + s * s2)] Q)
theorem uMultiply {K : PySem.W.Frag} {H : Hp} {Q : VK} {E : XK} {vs : List V} {am an : Addr} {p q r s p2 q2 r2 s2 : Int} {n0 n1 n2 n3 n4 n5 n6 n7 : Nat} (hev : vs = [.ref am, .ref an]) (s0 : SqT K H am [.int p, .int q, .int r, .int s]) (s1 : SqT K H an [.int p2, .int q2, .int r2, .int s2]) (b0 : Bd n0 p) (b1 : Bd n1 q) (b2 : Bd n2 r) (b3 : Bd n3 s) (b4 : Bd n4 p2) (b5 : Bd n5 q2) (b6 : Bd n6 r2) (b7 : Bd n7 s2) (hll : (n0 + n1 + n2 + n3 + n4 + n5 + n6 + n7 ≤ 400000) = True) (kk : R.Nw H [.int (p * p2 + q * r2), .int (p * q2 + q * s2), .int (r * p2 + s * r2), .int (r * q2 + s * s2)] Q) : spMultiply K vs H Q E :=
  have hll := of_eq_true hll
  ⟨am, an, p, q, r, s, p2, q2, r2, s2, n0 + n1 + n2 + n3 + n4 + n5 + n6 + n7, hev, s0, s1, b0.mono (by omega), b1.mono (by omega), b2.mono (by omega), b3.mono (by omega), b4.mono (by omega), b5.mono (by omega), b6.mono (by omega), b7.mono (by omega), hll, kk⟩
theorem okMultiply (T : Txt K mg fa fd) : FnOk P w K mg base CX0 1 (fa 22) (fd 22) ["m", "n"] (spMultiply K) := by
  refine T.F_multiply.ok scMultiply (fun vs H Q E h => ?_) (fun cdv A outer s H vs Q E hr h => ?_)
  · obtain ⟨am, an, p, q, r, s, p2, q2, r2, s2, N, rfl, h_am, h_an, b_p, b_q, b_r, b_s, b_p2, b_q2, b_r2, b_s2, hN, kk⟩ := h
    rfl
  · obtain ⟨am, an, p, q, r, s, p2, q2, r2, s2, N, rfl, h_am, h_an, b_p, b_q, b_r, b_s, b_p2, b_q2, b_r2, b_s2, hN, kk⟩ := h
    refine ⟨_, (pss_cons (ps_asg (pv 0) (pgT K 4 (by rfl) (pgs_cons (pg_name (i := 2) scMultiply.nd rfl (Or.inl rfl)) (pgs_cons (pg_name (i := 3) scMultiply.nd rfl (Or.inl rfl)) (pgs_cons (pg_name (i := 4) scMultiply.nd rfl (Or.inl rfl)) (pgs_cons (pg_name (i := 5) scMultiply.nd rfl (Or.inl rfl)) pgs_nil))))))
      (pss_cons (ps_asg (pv 1) (pgT K 4 (by rfl) (pgs_cons (pg_name (i := 6) scMultiply.nd rfl (Or.inl rfl)) (pgs_cons (pg_name (i := 7) scMultiply.nd rfl (Or.inl rfl)) (pgs_cons (pg_name (i := 8) scMultiply.nd rfl (Or.inl rfl)) (pgs_cons (pg_name (i := 9) scMultiply.nd rfl (Or.inl rfl)) pgs_nil))))))
      (pss_one (ps_ret (pe_tup (pa_cons (pe_op op_add (pe_op op_mulW (pv 2) (pv 6)) (pe_op op_mulW (pv 3) (pv 8))) (pa_cons (pe_op op_add (pe_op op_mulW (pv 2) (pv 7)) (pe_op op_mulW (pv 3) (pv 9))) (pa_cons (pe_op op_add (pe_op op_mulW (pv 4) (pv 6)) (pe_op op_mulW (pv 5) (pv 8))) (pa_cons (pe_op op_add (pe_op op_mulW (pv 4) (pv 7)) (pe_op op_mulW (pv 5) (pv 9))) pa_nil))))))))), ?_⟩
    clean_wf
    all_goals first | omega | exact kk | (refine kk _ _ ?_ (by assumption); (repeat' (first | with_reducible exact Same.refl _ | with_reducible assumption | ((with_reducible apply sameB); with_reducible assumption))))
def spDeterminant (K : PySem.W.Frag) : Sp := fun vs H Q _ => ∃ (am : Addr) (p q r s : Int) (N : Nat), vs = [.ref am] ∧ SqT K H am [.int p, .int q, .int r, .int s] ∧ Bd N p ∧ Bd N q ∧ Bd N r ∧ Bd N s ∧ N ≤ 400000 ∧ (Q (.int (p * s - q * r)) H)
theorem uDeterminant {K : PySem.W.Frag} {H : Hp} {Q : VK} {E : XK} {vs : List V} {am : Addr} {p q r s : Int} {n0 n1 n2 n3 : Nat} (hev : vs = [.ref am]) (s0 : SqT K H am [.int p, .int q, .int r, .int s]) (b0 : Bd n0 p) (b1 : Bd n1 q) (b2 : Bd n2 r) (b3 : Bd n3 s) (hll : (n0 + n1 + n2 + n3 ≤ 400000) = True) (kk : Q (.int (p * s - q * r)) H) : spDeterminant K vs H Q E :=
  have hll := of_eq_true hll
  ⟨am, p, q, r, s, n0 + n1 + n2 + n3, hev, s0, b0.mono (by omega), b1.mono (by omega), b2.mono (by omega), b3.mono (by omega), hll, kk⟩
theorem okDeterminant (T : Txt K mg fa fd) : FnOk P w K mg base CX0 1 (fa 23) (fd 23) ["m"] (spDeterminant K) := by
  refine T.F_determinant.ok scDeterminant (fun vs H Q E h => ?_) (fun cdv A outer s H vs Q E hr h => ?_)
  · obtain ⟨am, p, q, r, s, N, rfl, h_am, b_p, b_q, b_r, b_s, hN, kk⟩ := h
    rfl
  · obtain ⟨am, p, q, r, s, N, rfl, h_am, b_p, b_q, b_r, b_s, hN, kk⟩ := h
    refine ⟨_, (pss_cons (ps_asg (pv 0) (pgT K 4 (by rfl) (pgs_cons (pg_name (i := 1) scDeterminant.nd rfl (Or.inl rfl)) (pgs_cons (pg_name (i := 2) scDeterminant.nd rfl (Or.inl rfl)) (pgs_cons (pg_name (i := 3) scDeterminant.nd rfl (Or.inl rfl)) (pgs_cons (pg_name (i := 4) scDeterminant.nd rfl (Or.inl rfl)) pgs_nil))))))
      (pss_one (ps_ret (pe_op op_sub (pe_op op_mulW (pv 1) (pv 4)) (pe_op op_mulW (pv 2) (pv 3)))))), ?_⟩
    clean_wf
    all_goals first | omega | exact kk | (refine kk _ _ ?_ (by assumption); (repeat' (first | with_reducible exact Same.refl _ | with_reducible assumption | ((with_reducible apply sameB); with_reducible assumption))))
def spApply (K : PySem.W.Frag) : Sp := fun vs H Q _ => ∃ (am apoint : Addr) (p q r s x y : Int) (N : Nat), vs = [.ref am, .ref apoint] ∧ SqT K H am [.int p, .int q, .int r, .int s] ∧ SqT K H apoint [.int x, .int y] ∧ Bd N p ∧ Bd N q ∧ Bd N r ∧ Bd N s ∧ Bd N x ∧ Bd N y ∧ N ≤ 400000 ∧ (R.Nw H [.int (p * x + q * y), .int (r * x + s * y)] Q)
theorem uApply {K : PySem.W.Frag} {H : Hp} {Q : VK} {E : XK} {vs : List V} {am apoint : Addr} {p q r s x y : Int} {n0 n1 n2 n3 n4 n5 : Nat} (hev : vs = [.ref am, .ref apoint]) (s0 : SqT K H am [.int p, .int q, .int r, .int s]) (s1 : SqT K H apoint [.int x, .int y]) (b0 : Bd n0 p) (b1 : Bd n1 q) (b2 : Bd n2 r) (b3 : Bd n3 s) (b4 : Bd n4 x) (b5 : Bd n5 y) (hll : (n0 + n1 + n2 + n3 + n4 + n5 ≤ 400000) = True) (kk : R.Nw H [.int (p * x + q * y), .int (r * x + s * y)] Q) : spApply K vs H Q E :=
  have hll := of_eq_true hll
  ⟨am, apoint, p, q, r, s, x, y, n0 + n1 + n2 + n3 + n4 + n5, hev, s0, s1, b0.mono (by omega), b1.mono (by omega), b2.mono (by omega), b3.mono (by omega), b4.mono (by omega), b5.mono (by omega), hll, kk⟩
theorem okApply (T : Txt K mg fa fd) : FnOk P w K mg base CX0 1 (fa 24) (fd 24) ["m", "point"] (spApply K) := by
  refine T.F_apply.ok scApply (fun vs H Q E h => ?_) (fun cdv A outer s H vs Q E hr h => ?_)
  · obtain ⟨am, apoint, p, q, r, s, x, y, N, rfl, h_am, h_apoint, b_p, b_q, b_r, b_s, b_x, b_y, hN, kk⟩ := h
    rfl
  · obtain ⟨am, apoint, p, q, r, s, x, y, N, rfl, h_am, h_apoint, b_p, b_q, b_r, b_s, b_x, b_y, hN, kk⟩ := h
    refine ⟨_, (pss_cons (ps_asg (pv 0) (pgT K 4 (by rfl) (pgs_cons (pg_name (i := 2) scApply.nd rfl (Or.inl rfl)) (pgs_cons (pg_name (i := 3) scApply.nd rfl (Or.inl rfl)) (pgs_cons (pg_name (i := 4) scApply.nd rfl (Or.inl rfl)) (pgs_cons (pg_name (i := 5) scApply.nd rfl (Or.inl rfl)) pgs_nil))))))
      (pss_cons (ps_asg (pv 1) (pgT K 2 (by rfl) (pgs_cons (pg_name (i := 6) scApply.nd rfl (Or.inl rfl)) (pgs_cons (pg_name (i := 7) scApply.nd rfl (Or.inl rfl)) pgs_nil))))
      (pss_one (ps_ret (pe_tup (pa_cons (pe_op op_add (pe_op op_mulW (pv 2) (pv 6)) (pe_op op_mulW (pv 3) (pv 7))) (pa_cons (pe_op op_add (pe_op op_mulW (pv 4) (pv 6)) (pe_op op_mulW (pv 5) (pv 7))) pa_nil))))))), ?_⟩
    clean_wf
    all_goals first | omega | exact kk | (refine kk _ _ ?_ (by assumption); (repeat' (first | with_reducible exact Same.refl _ | with_reducible assumption | ((with_reducible apply sameB); with_reducible assumption))))
def spNegative (K : PySem.W.Frag) : Sp := fun vs H Q _ => ∃ (am : Addr) (p q r s : Int) (N : Nat), vs = [.ref am] ∧ SqT K H am [.int p, .int q, .int r, .int s] ∧ Bd N p ∧ Bd N q ∧ Bd N r ∧ Bd N s ∧ N ≤ 400000 ∧ (R.Nw H [.int (-p), .int (-q), .int (-r), .int (-s)] Q)
theorem uNegative {K : PySem.W.Frag} {H : Hp} {Q : VK} {E : XK} {vs : List V} {am : Addr} {p q r s : Int} {n0 n1 n2 n3 : Nat} (hev : vs = [.ref am]) (s0 : SqT K H am [.int p, .int q, .int r, .int s]) (b0 : Bd n0 p) (b1 : Bd n1 q) (b2 : Bd n2 r) (b3 : Bd n3 s) (hll : (n0 + n1 + n2 + n3 ≤ 400000) = True) (kk : R.Nw H [.int (-p), .int (-q), .int (-r), .int (-s)] Q) : spNegative K vs H Q E :=
  have hll := of_eq_true hll
  ⟨am, p, q, r, s, n0 + n1 + n2 + n3, hev, s0, b0.mono (by omega), b1.mono (by omega), b2.mono (by omega), b3.mono (by omega), hll, kk⟩
theorem okNegative (T : Txt K mg fa fd) : FnOk P w K mg base CX0 1 (fa 25) (fd 25) ["m"] (spNegative K) := by
  refine T.F_negative.ok scNegative (fun vs H Q E h => ?_) (fun cdv A outer s H vs Q E hr h => ?_)
  · obtain ⟨am, p, q, r, s, N, rfl, h_am, b_p, b_q, b_r, b_s, hN, kk⟩ := h
    rfl
  · obtain ⟨am, p, q, r, s, N, rfl, h_am, b_p, b_q, b_r, b_s, hN, kk⟩ := h
    refine ⟨_, (pss_cons (ps_asg (pv 0) (pgT K 4 (by rfl) (pgs_cons (pg_name (i := 1) scNegative.nd rfl (Or.inl rfl)) (pgs_cons (pg_name (i := 2) scNegative.nd rfl (Or.inl rfl)) (pgs_cons (pg_name (i := 3) scNegative.nd rfl (Or.inl rfl)) (pgs_cons (pg_name (i := 4) scNegative.nd rfl (Or.inl rfl)) pgs_nil))))))
      (pss_one (ps_ret (pe_tup (pa_cons (pe_un un_neg (pv 1)) (pa_cons (pe_un un_neg (pv 2)) (pa_cons (pe_un un_neg (pv 3)) (pa_cons (pe_un un_neg (pv 4)) pa_nil)))))))), ?_⟩
    clean_wf
    all_goals first | omega | exact kk | (refine kk _ _ ?_ (by assumption); (repeat' (first | with_reducible exact Same.refl _ | with_reducible assumption | ((with_reducible apply sameB); with_reducible assumption))))
def spInverse (K : PySem.W.Frag) : Sp := fun vs H Q _ => ∃ (am : Addr) (p q r s : Int) (N : Nat), vs = [.ref am] ∧ SqT K H am [.int p, .int q, .int r, .int s] ∧ Bd N p ∧ Bd N q ∧ Bd N r ∧ Bd N s ∧ N ≤ 100000 ∧ (p * s - q * r = 1 ∨ p * s - q * r = -1) ∧ (R.Nw H [.int ((p * s - q * r) * s), .int (-((p * s - q * r) * q)), .int (-((p * s - q * r) * r)), .int ((p * s - q * r) * p)] Q)
theorem uInverse {K : PySem.W.Frag} {H : Hp} {Q : VK} {E : XK} {vs : List V} {am : Addr} {p q r s : Int} {n0 n1 n2 n3 : Nat} (hev : vs = [.ref am]) (s0 : SqT K H am [.int p, .int q, .int r, .int s]) (b0 : Bd n0 p) (b1 : Bd n1 q) (b2 : Bd n2 r) (b3 : Bd n3 s) (hll : (n0 + n1 + n2 + n3 ≤ 100000) = True) (hcc : (p * s - q * r = 1 ∨ p * s - q * r = -1)) (kk : R.Nw H [.int ((p * s - q * r) * s), .int (-((p * s - q * r) * q)), .int (-((p * s - q * r) * r)), .int ((p * s - q * r) * p)] Q) : spInverse K vs H Q E :=
  have hll := of_eq_true hll
  ⟨am, p, q, r, s, n0 + n1 + n2 + n3, hev, s0, b0.mono (by omega), b1.mono (by omega), b2.mono (by omega), b3.mono (by omega), hll, hcc, kk⟩
theorem okInverse (T : Txt K mg fa fd) : FnOk P w K mg base CX0 2 (fa 26) (fd 26) ["m"] (spInverse K) := by
  refine T.F_inverse.ok scInverse (fun vs H Q E h => ?_) (fun cdv A outer s H vs Q E hr h => ?_)
  · obtain ⟨am, p, q, r, s, N, rfl, h_am, b_p, b_q, b_r, b_s, hN, c, kk⟩ := h
    rfl
  · obtain ⟨am, p, q, r, s, N, rfl, h_am, b_p, b_q, b_r, b_s, hN, c, kk⟩ := h
    refine ⟨_, (pss_cons (ps_asg (pv 0) (pgT K 4 (by rfl) (pgs_cons (pg_name (i := 1) scInverse.nd rfl (Or.inl rfl)) (pgs_cons (pg_name (i := 2) scInverse.nd rfl (Or.inl rfl)) (pgs_cons (pg_name (i := 3) scInverse.nd rfl (Or.inl rfl)) (pgs_cons (pg_name (i := 4) scInverse.nd rfl (Or.inl rfl)) pgs_nil))))))
      (pss_cons (ps_set (i := 5) scInverse.nd rfl (Or.inl rfl) (pe_tup (pa_cons (pv 4) (pa_cons (pe_un un_neg (pv 2)) (pa_cons (pe_un un_neg (pv 3)) (pa_cons (pv 1) pa_nil))))))
      (pss_one (ps_ret (pe_ifExp (pt_cmp (pc_eqI (pe_call (sp := spDeterminant K) (okDeterminant T) hr (by rfl) T.G_determinant T.F_determinant.kp T.B_determinant .nil pass0 (pa_cons (pv 0) pa_nil)) pe_int)) (pv 5) (pe_call (sp := spNegative K) (okNegative T) hr (by rfl) T.G_negative T.F_negative.kp T.B_negative .nil pass0 (pa_cons (pv 5) pa_nil))))))), ?_⟩
    clean_wf

    refine way2 (fun e => ?_) (fun e => ?_)
    · rw [e, Int.one_mul, Int.one_mul, Int.one_mul, Int.one_mul] at kk
      clean_wf
      all_goals exact kk _ _ (by assumption) (by assumption)
    · have e1 : p * s - q * r = -1 := c.resolve_left e
      rw [e1] at kk
      have e2 : ∀ x : Int, -1 * x = -x := fun x => by omega
      rw [e2, e2, e2, e2] at kk
      clean_wf
      all_goals (refine kk _ _ ?_ (by assumption); (repeat' (first | with_reducible exact Same.refl _ | with_reducible assumption | ((with_reducible apply sameB); with_reducible assumption))))
def spIsReducedDefinite (K : PySem.W.Frag) : Sp := fun vs H Q _ => ∃ (af : Addr) (a b c : Int), vs = [.ref af] ∧ SqT K H af [.int a, .int b, .int c] ∧ Q (.bl (decide (RedD a b c))) H
theorem uIsReducedDefinite {K : PySem.W.Frag} {H : Hp} {Q : VK} {E : XK} {vs : List V} {af : Addr} {a b c : Int} (e : vs = [.ref af]) (hs : SqT K H af [.int a, .int b, .int c]) (kk : Q (.bl (decide (RedD a b c))) H) : spIsReducedDefinite K vs H Q E := ⟨af, a, b, c, e, hs, kk⟩
theorem okIsReducedDefinite (T : Txt K mg fa fd) : FnOk P w K mg base CX0 1 (fa 27) (fd 27) ["form"] (spIsReducedDefinite K) := by
  refine T.F_is_reduced_definite.ok scIsReducedDefinite (fun vs H Q E h => ?_) (fun cdv A outer s H vs Q E hr h => ?_)
  · obtain ⟨af, a, b, c, rfl, hs, kk⟩ := h
    rfl
  · obtain ⟨af, a, b, c, rfl, hs, kk⟩ := h
    refine ⟨_, (pss_cons (ps_asg (pv 0) (pgT K 3 (by rfl) (pgs_cons (pg_name (i := 1) scIsReducedDefinite.nd rfl (Or.inl rfl)) (pgs_cons (pg_name (i := 2) scIsReducedDefinite.nd rfl (Or.inl rfl)) (pgs_cons (pg_name (i := 3) scIsReducedDefinite.nd rfl (Or.inl rfl)) pgs_nil)))))
      (pss_one (ps_ret (pe_and (pe_chain3 op_lt op_le op_le (pe_un un_neg (pv 1)) (pv 2) (pv 1) (pv 3)) (pe_one (pe_or (pe_cmp (pc_ge (pv 2) pe_int)) (pe_one (pe_cmp (pc_neI (pv 1) (pv 3)))))))))), ?_⟩
    clean_wf
    refine r_chain3 ?_
    clean_wf
    by_cases z1 : -a < b
    rotate_left
    · rw [decide_eq_false z1]
      rw [decide_eq_false (fun h => z1 h.1)] at kk
      clean_wf
    rw [decide_eq_true z1]
    clean_wf
    by_cases z2 : b ≤ a
    rotate_left
    · rw [decide_eq_false z2]
      rw [decide_eq_false (fun h => z2 h.2.1)] at kk
      clean_wf
    rw [decide_eq_true z2]
    clean_wf
    by_cases z3 : a ≤ c
    rotate_left
    · rw [decide_eq_false z3]
      rw [decide_eq_false (fun h => z3 h.2.2.1)] at kk
      clean_wf
    rw [decide_eq_true z3]
    clean_wf
    by_cases z4 : 0 ≤ b
    · rw [decide_eq_true z4]
      rw [decide_eq_true (show RedD a b c from ⟨z1, z2, z3, .inl z4⟩)] at kk
      clean_wf
    rw [decide_eq_false z4]
    clean_wf
    have e : decide (RedD a b c) = !decide (a = c) := by
      by_cases z5 : a = c
      · rw [decide_eq_true z5, decide_eq_false (fun h => h.2.2.2.elim z4 (fun h => h z5))]
        rfl
      · rw [decide_eq_false z5, decide_eq_true (show RedD a b c from ⟨z1, z2, z3, .inr z5⟩)]
        rfl
    rw [e] at kk
    clean_wf
def nD (a b : Int) : Int := (a - b).fdiv (2 * a)
theorem nD_spec {a b : Int} (a0 : 0 < a) : -a < b + 2 * a * nD a b ∧ b + 2 * a * nD a b ≤ a ∧ (nD a b = 0 ↔ (-a < b ∧ b ≤ a)) := by
  unfold nD
  rw [Int.fdiv_eq_ediv_of_nonneg _ (by omega)]
  have m0 := Int.emod_nonneg (a - b) (show 2 * a ≠ 0 by omega)
  have m1 := Int.emod_lt_of_pos (a - b) (show 0 < 2 * a by omega)
  have m2 := Int.mul_ediv_add_emod (a - b) (2 * a)
  refine ⟨by omega, by omega, fun h => ?_, fun h => ?_⟩
  · rw [h] at m2
    omega
  · exact Int.ediv_eq_zero_of_lt (by omega) (by omega)
def spStepDown (K : PySem.W.Frag) : Sp := fun vs H Q _ => ∃ (af : Addr) (a b c : Int), vs = [.ref af] ∧ SqT K H af [.int a, .int b, .int c] ∧ 0 < a ∧ Bd 60 a ∧ Bd 60 b ∧ ((nD a b ≠ 0 ∧ R.Nw H [.int 1, .int (nD a b), .int 0, .int 1] Q) ∨ (nD a b = 0 ∧ R.Nw H [.int 0, .int (-1), .int 1, .int 0] Q))
theorem okStepDown (T : Txt K mg fa fd) : FnOk P w K mg base CX0 1 (fa 29) (fd 29) ["form"] (spStepDown K) := by
  refine T.F__step_down.ok scStepDown (fun vs H Q E h => ?_) (fun cdv A outer s H vs Q E hr h => ?_)
  · obtain ⟨af, a, b, c, rfl, hs, a0, b1, b2, kk⟩ := h
    rfl
  · obtain ⟨af, a, b, c, rfl, hs, a0, b1, b2, kk⟩ := h
    refine ⟨_, (pss_cons (ps_asg (pv 0) (pgT K 3 (by rfl) (pgs_cons (pg_name (i := 1) scStepDown.nd rfl (Or.inl rfl)) (pgs_cons (pg_name (i := 2) scStepDown.nd rfl (Or.inl rfl)) (pgs_cons (pg_name (i := 3) scStepDown.nd rfl (Or.inl rfl)) pgs_nil)))))
      (pss_cons (ps_set (i := 4) scStepDown.nd rfl (Or.inl rfl) (pe_op op_fdivX (pe_op op_sub (pv 1) (pv 2)) (pe_op op_mulW pe_int (pv 1))))
      (pss_cons (ps_if (pt_cmp (pc_neI (pv 4) pe_int))
      (pss_one (ps_ret (pe_tup (pa_cons pe_int (pa_cons (pv 4) (pa_cons pe_int (pa_cons pe_int pa_nil)))))))
      pss_nil)
      (pss_one (ps_ret (pe_tup (pa_cons pe_int (pa_cons (pe_un un_neg pe_int) (pa_cons pe_int (pa_cons pe_int pa_nil)))))))))), ?_⟩
    clean_wf
    have e : (a - b).fdiv (2 * a) = nD a b := rfl
    rw [e]
    refine wayN2 (fun z => ?_) (fun z => ?_)
    · obtain ⟨_, kk⟩ := kk.resolve_right (fun h => z h.1)
      clean_wf
      exact kk _ _ sn ht
    · obtain ⟨_, kk⟩ := kk.resolve_left (fun h => h.1 z)
      clean_wf
      exact kk _ _ sn ht
/-- what reduce_definite gives of a positive form -/
structure RdD (E a0 b0 c0 a b c p q r s : Int) : Prop where
  F : PF E a b c
  ea : a = fA a0 b0 c0 p r
  eb : b = fB a0 b0 c0 p q r s
  ec : c = fA a0 b0 c0 q s
  det : p * s - q * r = 1
  ba : a ≤ 274877906944
  bb : (b.natAbs : Int) ≤ 1099511627776
  bc : c ≤ 1099511627776
theorem RdD.tr {E a0 b0 c0 a b c p q r s n : Int} (h : RdD E a0 b0 c0 a b c p q r s) (b1 : ((b + 2 * a * n).natAbs : Int) ≤ 1099511627776) (b2 : a * n * n + b * n + c ≤ 1099511627776) :
    RdD E a0 b0 c0 a (b + 2 * a * n) (a * n * n + b * n + c) (p * 1 + q * 0) (p * n + q * 1) (r * 1 + s * 0) (r * n + s * 1) := by
  obtain ⟨F, ea, eb, ec, det, ba, bb, bc⟩ := h
  refine ⟨F.tr n, ?_, ?_, ?_, ?_, ba, b1, b2⟩
  · rw [← actA, ← ea, ← eb, ← ec]
    unfold fA
    grind
  · rw [← actB, ← ea, ← eb, ← ec]
    unfold fB
    grind
  · rw [← actA, ← ea, ← eb, ← ec]
    unfold fA
    grind
  · grind
theorem RdD.sw {E a0 b0 c0 a b c p q r s : Int} (h : RdD E a0 b0 c0 a b c p q r s) (b1 : c ≤ 274877906944) :
    RdD E a0 b0 c0 c (-b) a (p * 0 + q * 1) (p * (-1) + q * 0) (r * 0 + s * 1) (r * (-1) + s * 0) := by
  obtain ⟨F, ea, eb, ec, det, ba, bb, bc⟩ := h
  refine ⟨F.sw, ?_, ?_, ?_, ?_, b1, by omega, by omega⟩
  · rw [← actA, ← ea, ← eb, ← ec]
    unfold fA
    grind
  · rw [← actB, ← ea, ← eb, ← ec]
    unfold fB
    grind
  · rw [← actA, ← ea, ← eb, ← ec]
    unfold fA
    grind
  · grind
theorem act_tr (a b c n : Int) : a * 1 * 1 + b * 1 * 0 + c * 0 * 0 = a ∧ 2 * a * 1 * n + b * (1 * 1 + n * 0) + 2 * c * 0 * 1 = b + 2 * a * n ∧ a * n * n + b * n * 1 + c * 1 * 1 = a * n * n + b * n + c := by
  refine ⟨by omega, ?_, ?_⟩
  · grind
  · grind
theorem act_sw (a b c : Int) : a * 0 * 0 + b * 0 * 1 + c * 1 * 1 = c ∧ 2 * a * 0 * (-1) + b * (0 * 0 + (-1) * 1) + 2 * c * 1 * 0 = -b ∧ a * (-1) * (-1) + b * (-1) * 0 + c * 0 * 0 = a := by
  refine ⟨by omega, ?_, ?_⟩
  · grind
  · grind
/-- the measure of the walk down -/
def Ms (a b c : Int) (i k m : Nat) : Prop := (RedD a b c ∧ m = 0 ∧ i ≤ 283) ∨ (¬ RedD a b c ∧ ((¬ (-a < b ∧ b ≤ a) ∧ m = 2 * k + 2) ∨ ((-a < b ∧ b ≤ a) ∧ m = 2 * k + 1)) ∧ i + m ≤ 282 ∧ Pt9 a k)
theorem ms_start {a b c : Int} (a0 : 0 < a) (h : a ≤ 274877906944) : ∃ m, Ms a b c 0 140 m := by
  have pt : Pt9 a 140 := .inr ⟨39, rfl, by show a.toNat < 549755813888; omega⟩
  by_cases z : RedD a b c
  · exact ⟨0, .inl ⟨z, rfl, by decide⟩⟩
  · by_cases y : -a < b ∧ b ≤ a
    · exact ⟨281, .inr ⟨z, .inr ⟨y, rfl⟩, by decide, pt⟩⟩
    · exact ⟨282, .inr ⟨z, .inl ⟨y, rfl⟩, by decide, pt⟩⟩
theorem Ms.tr {a b c b' c' : Int} {i k m : Nat} (h : Ms a b c i k m) (z : ¬ RedD a b c) (hn : ¬ (-a < b ∧ b ≤ a)) (v1 : -a < b') (v2 : b' ≤ a) : ∃ m', m' < m ∧ Ms a b' c' (i + 1) k m' := by
  rcases h with ⟨h, _⟩ | ⟨_, hm, hi, pt⟩
  · exact absurd h z
  · have em : m = 2 * k + 2 := by
      rcases hm with ⟨_, h⟩ | ⟨h, _⟩
      · exact h
      · exact absurd h hn
    by_cases y : RedD a b' c'
    · exact ⟨0, by omega, .inl ⟨y, rfl, by omega⟩⟩
    · exact ⟨2 * k + 1, by omega, .inr ⟨y, .inr ⟨⟨v1, v2⟩, rfl⟩, by omega, pt⟩⟩
theorem Ms.sw {E a b c : Int} {i k m : Nat} (h : Ms a b c i k m) (F : PF E a b c) (z : ¬ RedD a b c) (v1 : -a < b) (v2 : b ≤ a) (hca : c ≤ a) : ∃ m', m' < m ∧ ∃ k', Ms c (-b) a (i + 1) k' m' := by
  rcases h with ⟨h, _⟩ | ⟨_, hm, hi, pt⟩
  · exact absurd h z
  · have em : m = 2 * k + 1 := by
      rcases hm with ⟨h, _⟩ | ⟨_, h⟩
      · exact absurd ⟨v1, v2⟩ h
      · exact h
    have c0 := F.c0
    by_cases y : RedD c (-b) a
    · exact ⟨0, by omega, 0, .inl ⟨y, rfl, by omega⟩⟩
    · have lt : c < a := by
        by_cases x : c < a
        · exact x
        · exfalso
          have e : c = a := by omega
          subst e
          by_cases w : 0 ≤ b
          · exact z ⟨v1, v2, by omega, .inl w⟩
          · exact y ⟨by omega, by omega, by omega, .inl (by omega)⟩
      obtain ⟨k', h1, h2⟩ : ∃ k', k' < k ∧ Pt9 c k' := by
        by_cases x : 100 < a
        · exact pt_half pt x c0 (F.half v1 v2 x)
        · exact pt_less pt (by omega) c0 lt
      by_cases w : -c < -b ∧ -b ≤ c
      · exact ⟨2 * k' + 1, by omega, k', .inr ⟨y, .inr ⟨w, rfl⟩, by omega, h2⟩⟩
      · exact ⟨2 * k' + 2, by omega, k', .inr ⟨y, .inl ⟨w, rfl⟩, by omega, h2⟩⟩
def spRd0 (K : PySem.W.Frag) : Sp := fun vs H Q _ => ∃ (af : Addr) (a b c E : Int), vs = [.ref af] ∧ SqT K H af [.int a, .int b, .int c] ∧ PF E a b c ∧ a ≤ 274877906944 ∧ (b.natAbs : Int) ≤ 274877906944 ∧ c ≤ 274877906944 ∧
  ∀ H' t tf tm a' b' c' p q r s, Same H H' → H' t = some (.tup [.ref tf, .ref tm]) → SqT K H' tf [.int a', .int b', .int c'] → SqT K H' tm [.int p, .int q, .int r, .int s] → RdD E a b c a' b' c' p q r s → RedD a' b' c' → Bd 8000 p → Bd 8000 q → Bd 8000 r → Bd 8000 s → Q (.ref t) H'

theorem okRd0 (T : Txt K mg fa fd) : FnOk P w K mg base CX0 3 (fa 28) (fd 28) ["form"] (spRd0 K) := by
  refine T.F_reduce_definite.ok scReduceDefinite (fun vs H Q E h => ?_) (fun cdv A outer s0 H vs Q E0' hr h => ?_)
  · obtain ⟨af, a, b, c, E, rfl, _⟩ := h
    rfl
  · obtain ⟨af, a0, b0, c0, E, rfl, hs, F0, h1, h2, h3, kk⟩ := h
    refine ⟨_, (pss_cons (ps_if (pt_cmp (pc_lt (pe_ix (ixT K) (pv 0) pe_int (fun _ _ => rfl)) pe_int))
      (pss_cons ps_never (pss_one ps_never))
      pss_nil)
      (pss_cons (ps_set (i := 2) scReduceDefinite.nd rfl (Or.inl rfl) (pe_glob (v := .ref (fa 71)) (by rfl) T.g_UNIT rfl))
      (pss_cons (ps_while PassesOwn.never (pt_not (pt_val (pe_call (sp := spIsReducedDefinite K) (okIsReducedDefinite T) (hr.mono (by decide)) (by rfl) T.G_is_reduced_definite T.F_is_reduced_definite.kp T.B_is_reduced_definite .nil pass0 (pa_cons (pv 0) pa_nil))))
      (pss_cons (ps_set (i := 3) scReduceDefinite.nd rfl (Or.inl rfl) (pe_call (sp := spStepDown K) (okStepDown T) (hr.mono (by decide)) (by rfl) T.G__step_down T.F__step_down.kp T.B__step_down .nil pass0 (pa_cons (pv 0) pa_nil)))
        (pss_cons (ps_set (i := 0) scReduceDefinite.nd rfl (Or.inl rfl) (pe_call (sp := spAct K) (okAct T) (hr.mono (by decide)) (by rfl) T.G_act T.F_act.kp T.B_act .nil pass0 (pa_cons (pv 0) (pa_cons (pv 3) pa_nil))))
        (pss_one (ps_set (i := 2) scReduceDefinite.nd rfl (Or.inl rfl) (pe_call (sp := spMultiply K) (okMultiply T) (hr.mono (by decide)) (by rfl) T.G_multiply T.F_multiply.kp T.B_multiply .nil pass0 (pa_cons (pv 2) (pa_cons (pv 3) pa_nil))))))))
      (pss_one (ps_ret (pe_tup (pa_cons (pv 0) (pa_cons (pv 2) pa_nil)))))))), ?_⟩
    have hU := fun H => T.S_UNIT H
    have fa0 := F0.a0
    clean_wf
    refine wayF (by omega) ?_
    clean_wf
    refine ⟨fun m σ H' => ∃ (tf tm : Addr) (x1 x3 : Option V) (a b c p q r s : Int) (i k u : Nat), σ = [some (.ref tf), x1, some (.ref tm), x3] ∧ Same H H' ∧ SqT K H' tf [.int a, .int b, .int c] ∧ SqT K H' tm [.int p, .int q, .int r, .int s] ∧ RdD E a0 b0 c0 a b c p q r s ∧
        Bd (24 * i + u + 1) p ∧ Bd (24 * i + u + 1) q ∧ Bd (24 * i + u + 1) r ∧ Bd (24 * i + u + 1) s ∧ u ≤ 20 ∧ (u = 0 ∨ (-a < b ∧ b ≤ a)) ∧ Ms a b c i k m, ?_, ?_⟩
    · have R0 : RdD E a0 b0 c0 a0 b0 c0 1 0 0 1 := ⟨F0, by unfold fA; omega, by unfold fB; omega, by unfold fA; omega, by decide, h1, by omega, by omega⟩
      obtain ⟨m0, hm0⟩ := ms_start (b := b0) (c := c0) fa0 h1
      exact ⟨m0, _, _, _, _, a0, b0, c0, 1, 0, 0, 1, 0, 140, 0, rfl, Same.refl _, by simp_wf, by simp_wf, R0, by unfold Bd; decide, by unfold Bd; decide, by unfold Bd; decide, by unfold Bd; decide, by decide, .inl rfl, hm0⟩
    rintro m σ H' ⟨tf, tm, x1, x3, a, b, c, p, q, r, s, i, k, u, rfl, sm, sf, st, RI, e1, e2, e3, e4, hu, hun, hm⟩
    have hi9 : i ≤ 283 := by
      rcases hm with ⟨_, _, h⟩ | ⟨_, _, h, _⟩ <;> omega
    have F := RI.F
    have ba := RI.ba
    have bb := RI.bb
    have bc := RI.bc
    have a0' := F.a0
    have c0' := F.c0
    have ee0 := F.e0
    have ee1 := F.e1
    have g1 : Bd 60 a := Bd.om (by omega)
    have g2 : Bd 60 b := Bd.om (by omega)
    have g3 : Bd 60 c := Bd.om (by omega)
    have y0 : Bd 1 0 := by unfold Bd; decide
    have y1 : Bd 1 1 := by unfold Bd; decide
    have ym : Bd 1 (-1) := by unfold Bd; decide
    clean_wf
    refine wayN2 (fun z => ?_) (fun z => ?_)
    · refine ⟨fun σ' H2 => ∃ m' < m, ∃ (tf tm : Addr) (x1 x3 : Option V) (a b c p q r s : Int) (i k u : Nat), σ' = [some (.ref tf), x1, some (.ref tm), x3] ∧ Same H H2 ∧ SqT K H2 tf [.int a, .int b, .int c] ∧ SqT K H2 tm [.int p, .int q, .int r, .int s] ∧ RdD E a0 b0 c0 a b c p q r s ∧
        Bd (24 * i + u + 1) p ∧ Bd (24 * i + u + 1) q ∧ Bd (24 * i + u + 1) r ∧ Bd (24 * i + u + 1) s ∧ u ≤ 20 ∧ (u = 0 ∨ (-a < b ∧ b ≤ a)) ∧ Ms a b c i k m', fun σ' H2 h => h, ?_⟩
      clean_wf
      refine ⟨tf, a, b, c, rfl, sf, a0', g1, g2, ?_⟩
      obtain ⟨v1, v2, v3⟩ := nD_spec (b := b) a0'
      by_cases w : nD a b = 0
      · refine .inr ⟨w, ?_⟩
        obtain ⟨n1, n2⟩ := v3.mp w
        have hca : c ≤ a := by
          by_cases x : c ≤ a
          · exact x
          · exact absurd ⟨n1, n2, by omega, .inr (by omega)⟩ z
        have R2 := RI.sw (by omega)
        obtain ⟨m', hlt, hms⟩ := hm.sw F z n1 n2 hca
        obtain ⟨ga, gb, gc⟩ := act_sw a b c
        clean_wf
        refine ⟨m', hlt, _, _, _, _, c, -b, a, p * 0 + q * 1, p * (-1) + q * 0, r * 0 + s * 1, r * (-1) + s * 0, i + 1, _, 0, rfl, ?_, ?_, ?_, R2, ((e1.mul y0).add (e2.mul y1)).mono (by omega), ((e1.mul ym).add (e2.mul y0)).mono (by omega), ((e3.mul y0).add (e4.mul y1)).mono (by omega), ((e3.mul ym).add (e4.mul y0)).mono (by omega), by decide, .inl rfl, hms.choose_spec⟩
        · array_mem_dec
        · have h : ∀ t, SqT K HN t [.int (a * 0 * 0 + b * 0 * 1 + c * 1 * 1), .int (2 * a * 0 * (-1) + b * (0 * 0 + (-1) * 1) + 2 * c * 1 * 0), .int (a * (-1) * (-1) + b * (-1) * 0 + c * 0 * 0)] → SqT K HN t [.int c, .int (-b), .int a] := by
            intro t h
            rw [ga, gb, gc] at h
            exact h
          refine h _ ?_
          simp_wf
        · simp_wf
      · refine .inl ⟨w, ?_⟩
        have hu0 : u = 0 := by
          rcases hun with h | h
          · exact h
          · exact absurd (v3.mpr h) w
        subst hu0
        generalize hn : nD a b = n at *
        have cl := (F.tr n).c_le v1 v2
        have hns : n.natAbs ≤ 1099511627776 := by
          have e : ((2 * a * n).natAbs : Int) = 2 * (a * (n.natAbs : Int)) := by
            rw [Int.mul_assoc, Int.natAbs_mul, Int.natAbs_mul, show a.natAbs = a.toNat by omega]
            rw [show ((2 : Int).natAbs * (a.toNat * n.natAbs) : Nat) = 2 * (a.toNat * n.natAbs) from rfl]
            rw [Int.natCast_mul, Int.natCast_mul, Int.toNat_of_nonneg (by omega)]
            rfl
          have t := Int.mul_le_mul_of_nonneg_right (show 1 ≤ a by omega) (show 0 ≤ (n.natAbs : Int) by omega)
          omega
        have bn : Bd 41 n := Bd.of hns (by decide)
        have R2 := RI.tr (n := n) (by omega) (by omega)
        obtain ⟨m', hlt, hms⟩ := hm.tr (c' := a * n * n + b * n + c) z (fun h => w (v3.mpr h)) v1 v2
        obtain ⟨ga, gb, gc⟩ := act_tr a b c n
        clean_wf
        refine ⟨m', hlt, _, _, _, _, a, b + 2 * a * n, a * n * n + b * n + c, p * 1 + q * 0, p * n + q * 1, r * 1 + s * 0, r * n + s * 1, i + 1, k, 20, rfl, ?_, ?_, ?_, R2, ((e1.mul y1).add (e2.mul y0)).mono (by omega), ((e1.mul bn).add (e2.mul y1)).mono (by omega), ((e3.mul y1).add (e4.mul y0)).mono (by omega), ((e3.mul bn).add (e4.mul y1)).mono (by omega), by decide, .inr ⟨v1, v2⟩, hms⟩
        · array_mem_dec
        · have h : ∀ t, SqT K HN t [.int (a * 1 * 1 + b * 1 * 0 + c * 0 * 0), .int (2 * a * 1 * n + b * (1 * 1 + n * 0) + 2 * c * 0 * 1), .int (a * n * n + b * n * 1 + c * 1 * 1)] → SqT K HN t [.int a, .int (b + 2 * a * n), .int (a * n * n + b * n + c)] := by
            intro t h
            rw [ga, gb, gc] at h
            exact h
          refine h _ ?_
          simp_wf
        · simp_wf
    · have hi : i ≤ 283 := by
        rcases hm with ⟨_, _, h⟩ | ⟨h, _⟩
        · exact h
        · exact absurd z h
      clean_wf
      exact kk _ _ tf tm a b c p q r s (sm.trans sn) ht (same_seqT sn sf) (same_seqT sn st) RI z (e1.mono (by omega)) (e2.mono (by omega)) (e3.mono (by omega)) (e4.mono (by omega))
def spRdN (K : PySem.W.Frag) : Sp := fun vs H Q _ => ∃ (af : Addr) (a b c E : Int), vs = [.ref af] ∧ SqT K H af [.int a, .int b, .int c] ∧ PF E (-a) (-b) (-c) ∧ -a ≤ 274877906944 ∧ (b.natAbs : Int) ≤ 274877906944 ∧ -c ≤ 274877906944 ∧
  ∀ H' t tf tm a' b' c' p q r s, Same H H' → H' t = some (.tup [.ref tf, .ref tm]) → SqT K H' tf [.int a', .int b', .int c'] → SqT K H' tm [.int p, .int q, .int r, .int s] → RdD E (-a) (-b) (-c) (-a') (-b') (-c') p q r s → RedD (-a') (-b') (-c') → Bd 8000 p → Bd 8000 q → Bd 8000 r → Bd 8000 s → Q (.ref t) H'
theorem okRdN (T : Txt K mg fa fd) : FnOk P w K mg base CX0 4 (fa 28) (fd 28) ["form"] (spRdN K) := by
  refine T.F_reduce_definite.ok scReduceDefinite (fun vs H Q E h => ?_) (fun cdv A outer s0 H vs Q E0' hr h => ?_)
  · obtain ⟨af, a, b, c, E, rfl, _⟩ := h
    rfl
  · obtain ⟨af, a0, b0, c0, E, rfl, hs, F0, h1, h2, h3, kk⟩ := h
    refine ⟨_, (pss_cons (ps_if (pt_cmp (pc_lt (pe_ix (ixT K) (pv 0) pe_int (fun _ _ => rfl)) pe_int))
(pss_cons (ps_asg (pe_call (sp := spRd0 K) (okRd0 T) hr (by rfl) T.G_reduce_definite T.F_reduce_definite.kp T.B_reduce_definite .nil pass0 (pa_cons (pe_call (sp := spScaled K) (okScaled T) (hr.mono (by decide)) (by rfl) T.G_scaled T.F_scaled.kp T.B_scaled .nil pass0 (pa_cons (pv 0) (pa_cons (pe_un un_neg pe_int) pa_nil))) pa_nil)) (pgT K 2 (by rfl) (pgs_cons (pg_name (i := 1) scReduceDefinite.nd rfl (Or.inl rfl)) (pgs_cons (pg_name (i := 2) scReduceDefinite.nd rfl (Or.inl rfl)) pgs_nil))))
        (pss_one (ps_ret (pe_tup (pa_cons (pe_call (sp := spScaled K) (okScaled T) (hr.mono (by decide)) (by rfl) T.G_scaled T.F_scaled.kp T.B_scaled .nil pass0 (pa_cons (pv 1) (pa_cons (pe_un un_neg pe_int) pa_nil))) (pa_cons (pv 2) pa_nil))))))
pss_nil) (pss_cons ps_never (pss_cons ps_never (pss_one ps_never)))), ?_⟩
    have fa0 := F0.a0
    have fc0 := F0.c0
    have g1 : Bd 60 a0 := Bd.om (by omega)
    have g2 : Bd 60 b0 := Bd.om (by omega)
    have g3 : Bd 60 c0 := Bd.om (by omega)
    have e1 : a0 * -1 = -a0 := by omega
    have e2 : b0 * -1 = -b0 := by omega
    have e3 : c0 * -1 = -c0 := by omega
    clean_wf
    refine wayT (by omega) ?_
    clean_wf
    rw [e1, e2, e3] at ht
    refine ⟨tn, -a0, -b0, -c0, E, rfl, SqT.of ht, F0, h1, by omega, h3, ?_⟩
    intro H' t tf tm a' b' c' p q r s sm htt sf st RI hred n1 n2 n3 n4
    have k1 := RI.ba
    have k2 := RI.bb
    have k3 := RI.bc
    have k4 := RI.F.a0
    have k5 := RI.F.c0
    have l1 : Bd 60 a' := Bd.om (by omega)
    have l2 : Bd 60 b' := Bd.om (by omega)
    have l3 : Bd 60 c' := Bd.om (by omega)
    clean_wf
    refine kk _ tn _ tm (a' * -1) (b' * -1) (c' * -1) p q r s ?_ ht ?_ ?_ ?_ ?_ n1 n2 n3 n4
    · array_mem_dec
    · simp_wf
    · simp_wf
    · rw [show -(a' * -1) = a' by omega, show -(b' * -1) = b' by omega, show -(c' * -1) = c' by omega]
      exact RI
    · rw [show -(a' * -1) = a' by omega, show -(b' * -1) = b' by omega, show -(c' * -1) = c' by omega]
      exact hred
def spReduceDefinite (K : PySem.W.Frag) : Sp := fun vs H Q _ => ∃ (af : Addr) (a b c E g : Int), vs = [.ref af] ∧ SqT K H af [.int a, .int b, .int c] ∧ ((g = 1 ∧ 0 < a) ∨ (g = -1 ∧ a < 0)) ∧ PF E (g * a) (g * b) (g * c) ∧ (a.natAbs : Int) ≤ 274877906944 ∧ (b.natAbs : Int) ≤ 274877906944 ∧ (c.natAbs : Int) ≤ 274877906944 ∧
  ∀ H' t tf tm a' b' c' p q r s, Same H H' → H' t = some (.tup [.ref tf, .ref tm]) → SqT K H' tf [.int a', .int b', .int c'] → SqT K H' tm [.int p, .int q, .int r, .int s] → RdD E (g * a) (g * b) (g * c) (g * a') (g * b') (g * c') p q r s → RedD (g * a') (g * b') (g * c') → Bd 8000 p → Bd 8000 q → Bd 8000 r → Bd 8000 s → Q (.ref t) H'
theorem okReduceDefinite (T : Txt K mg fa fd) : FnOk P w K mg base CX0 9 (fa 28) (fd 28) ["form"] (spReduceDefinite K) := by
  have F0 := (okRd0 (P := P) (w := w) (base := base) T).mono (k := 9) (by decide)
  have F1 := (okRdN (P := P) (w := w) (base := base) T).mono (k := 9) (by decide)
  have key : ∀ vs H Q E, spReduceDefinite K vs H Q E → spRd0 K vs H Q E ∨ spRdN K vs H Q E := by
    rintro vs H Q E0' ⟨af, a, b, c, E, g, e, hs, hg, F, h1, h2, h3, kk⟩
    rcases hg with ⟨rfl, hg⟩ | ⟨rfl, hg⟩
    · left
      rw [Int.one_mul, Int.one_mul, Int.one_mul] at F
      refine ⟨af, a, b, c, E, e, hs, F, by omega, h2, by omega, fun H' t tf tm a' b' c' p q r s x1 x2 x3 x4 x5 x6 x7 x8 x9 x10 => kk H' t tf tm a' b' c' p q r s x1 x2 x3 x4 ?_ ?_ x7 x8 x9 x10⟩
      · rw [Int.one_mul, Int.one_mul, Int.one_mul, Int.one_mul, Int.one_mul, Int.one_mul]
        exact x5
      · rw [Int.one_mul, Int.one_mul, Int.one_mul]
        exact x6
    · right
      have e1 : ∀ x : Int, -1 * x = -x := fun x => by omega
      rw [e1, e1, e1] at F
      refine ⟨af, a, b, c, E, e, hs, F, by omega, h2, by omega, fun H' t tf tm a' b' c' p q r s x1 x2 x3 x4 x5 x6 x7 x8 x9 x10 => kk H' t tf tm a' b' c' p q r s x1 x2 x3 x4 ?_ ?_ x7 x8 x9 x10⟩
      · rw [e1, e1, e1, e1, e1, e1]
        exact x5
      · rw [e1, e1, e1]
        exact x6
  exact ⟨fun vs H Q E h => (key vs H Q E h).elim (F0.len vs H Q E) (F1.len vs H Q E), fun A outer s H args us vs Q E hr he hb hv h => (key vs H Q E h).elim (F0.run A outer s H args us vs Q E hr he hb hv) (F1.run A outer s H args us vs Q E hr he hb hv)⟩
def spSelfChanges (K : PySem.W.Frag) : Sp := fun vs H Q _ => ∃ (af : Addr) (a b c : Int), vs = [.ref af] ∧ SqT K H af [.int a, .int b, .int c] ∧ gL [a, b, c] ≠ 0 ∧ Bd 60 (gL [a, b, c]) ∧ Bd 60 a ∧ Bd 60 b ∧ Bd 60 c ∧
  ∀ H' l ys, Same H H' → H l = none → H' l = some (.lst ys) → Tps K H' ys (selfL a b c) → Q (.ref l) H'
theorem okSelfChanges (T : Txt K mg fa fd) : FnOk P w K mg base CX0 3 (fa 30) (fd 30) ["form"] (spSelfChanges K) := by
  refine T.F_self_changes.ok scSelfChanges (fun vs H Q E h => ?_) (fun cdv A outer s H vs Q E hr h => ?_)
  · obtain ⟨af, a, b, c, rfl, hs, g0, bg, ba, bb, bc, kk⟩ := h
    rfl
  · obtain ⟨af, a, b, c, rfl, hs, g0, bg, ba, bb, bc, kk⟩ := h
    refine ⟨_, (pss_cons (ps_set (i := 1) scSelfChanges.nd rfl (Or.inr rfl) (pe_call (sp := spDivided K) (okDivided T) (hr.mono (by decide)) (by rfl) T.G_divided T.F_divided.kp T.B_divided .nil pass0 (pa_cons (pv 0) (pa_cons (pe_call (sp := spContent K) (okContent T) hr (by rfl) T.G_content T.F_content.kp T.B_content .nil pass0 (pa_cons (pv 0) pa_nil)) pa_nil))))
      (pss_cons (ps_set (i := 2) scSelfChanges.nd rfl (Or.inl rfl) (pe_call (sp := spDiscriminant K) (okDiscriminant T) (hr.mono (by decide)) (by rfl) T.G_discriminant T.F_discriminant.kp T.B_discriminant .nil pass0 (pa_cons (pv 1) pa_nil)))
      (pss_cons (ps_set (i := 3) scSelfChanges.nd rfl (Or.inl rfl) (pe_ifExp (pt_cmp (pc_eqI (pv 2) (pe_un un_neg pe_int))) (pe_glob (v := .ref (fa 72)) (by rfl) T.g_UNITS_OF_3 rfl) (pe_ifExp (pt_cmp (pc_eqI (pv 2) (pe_un un_neg pe_int))) (pe_glob (v := .ref (fa 73)) (by rfl) T.g_UNITS_OF_4 rfl) (pe_glob (v := .ref (fa 74)) (by rfl) T.g_OTHER_UNITS rfl))))
      (pss_one (ps_ret (pe_lc (own := [("t", 4), ("u", 5)])  (tt := tYes) rfl scSelfChanges.nd (piT K (pv 3)) (blkOk_by (own := [("t", 4), ("u", 5)]) (N := ["form", "part", "d", "units", "t", "u"]) (sc := defScope sSelfChanges) (by decide +kernel)) (fun _ _ _ _ _ => (pgT K 2 (by rfl) (pgs_cons (pg_name (i := 4) scSelfChanges.nd rfl (Or.inl rfl)) (pgs_cons (pg_name (i := 5) scSelfChanges.nd rfl (Or.inl rfl)) pgs_nil)))) (fun _ _ _ _ _ => pts_nil) (fun _ _ _ _ _ => (pe_call (sp := spUnitChange K) (okUnitChange T) (hr.mono (by decide)) (by rfl) T.G_unit_change T.F_unit_change.kp T.B_unit_change .nil pass0 (pa_cons (pv 1) (pa_cons (pv 4) (pa_cons (pv 5) pa_nil))))))))))), ?_⟩
    obtain ⟨u0, u1, u2, u3, u4, u5, hU3, hA0, hA1, hA2, hA3, hA4, hA5⟩ := T.S_UNITS_OF_3
    obtain ⟨v0, v1, v2, v3, hU4, hB0, hB1, hB2, hB3⟩ := T.S_UNITS_OF_4
    obtain ⟨w0, w1, hUO, hC0, hC1⟩ := T.S_OTHER_UNITS
    unfold selfL at kk
    have gA : Bd 60 (a.fdiv (gL [a, b, c])) := ba.fdiv
    have gB : Bd 60 (b.fdiv (gL [a, b, c])) := bb.fdiv
    have gC : Bd 60 (c.fdiv (gL [a, b, c])) := bc.fdiv
    clean_wf
    generalize a.fdiv (gL [a, b, c]) = A at *
    generalize b.fdiv (gL [a, b, c]) = B at *
    generalize c.fdiv (gL [a, b, c]) = C at *
    have sP := SqT.of (K := K) ht
    have s1 := sn
    clear sn ht
    generalize tn = tP at *
    generalize HN = H1 at *
    have ed : B * B - 4 * A * C = dsc A B C := rfl
    rw [ed]
    unfold unitsL at kk
    by_cases z3 : dsc A B C = -3
    · rw [decide_eq_true z3]
      rw [if_pos z3] at kk
      clean_wf
      refine R.refs (S := SqT K _) (xs := [.ref u0, .ref u1, .ref u2, .ref u3, .ref u4, .ref u5]) (hU3 _) ?_
      have key : ∀ (i : Nat) (x : V), [V.ref u0, V.ref u1, V.ref u2, V.ref u3, V.ref u4, V.ref u5][i]? = some x → ∃ (ax : Addr) (t u : Int), x = .ref ax ∧ (∀ H, SqT K H ax [.int t, .int u]) ∧ t.natAbs ≤ 2 ∧ u.natAbs ≤ 2 ∧ ([(2, 0), (1, 1), (-1, 1), (-2, 0), (-1, -1), (1, -1)] : List (Int × Int)).getD i (0, 0) = (t, u) := by
        intro i x h
        rcases i with _ | _ | _ | _ | _ | _ | i
        · cases h
          exact ⟨_, _, _, rfl, hA0, by decide, by decide, rfl⟩
        · cases h
          exact ⟨_, _, _, rfl, hA1, by decide, by decide, rfl⟩
        · cases h
          exact ⟨_, _, _, rfl, hA2, by decide, by decide, rfl⟩
        · cases h
          exact ⟨_, _, _, rfl, hA3, by decide, by decide, rfl⟩
        · cases h
          exact ⟨_, _, _, rfl, hA4, by decide, by decide, rfl⟩
        · cases h
          exact ⟨_, _, _, rfl, hA5, by decide, by decide, rfl⟩
        · cases h
      refine R.lcTp (xs := [.ref u0, .ref u1, .ref u2, .ref u3, .ref u4, .ref u5]) (fun i => ucM A B C (([(2, 0), (1, 1), (-1, 1), (-2, 0), (-1, -1), (1, -1)] : List (Int × Int)).getD i (0, 0)).1 (([(2, 0), (1, 1), (-1, 1), (-2, 0), (-1, -1), (1, -1)] : List (Int × Int)).getD i (0, 0)).2) (by show 6 ≤ 1000; decide) (hU3 _) (fun i x H' Q' hx smx qx => ?_) (fun H5 D ys hD tp s5 nD => ?_)
      · obtain ⟨ax, t, u, rfl, sx, t2, u2, e⟩ := key i x hx
        rw [e] at qx
        have sx := sx H'
        have sP' := same_seqT smx sP
        have bt : Bd 8 t := Bd.of t2 (by decide)
        have bu : Bd 8 u := Bd.of u2 (by decide)
        clean_wf
        refine ⟨rfl, ?_⟩
        clean_wf
        exact qx _ _ sn (SqT.of ht)
      · refine kk _ _ _ (s1.trans s5) ?_ hD tp
        cases e : H D with
        | none => rfl
        | some o =>
          rw [s1 _ _ e] at nD
          cases nD
    rw [decide_eq_false z3]
    rw [if_neg z3] at kk
    clean_wf
    by_cases z4 : dsc A B C = -4
    · rw [decide_eq_true z4]
      rw [if_pos z4] at kk
      clean_wf
      refine R.refs (S := SqT K _) (xs := [.ref v0, .ref v1, .ref v2, .ref v3]) (hU4 _) ?_
      have key : ∀ (i : Nat) (x : V), [V.ref v0, V.ref v1, V.ref v2, V.ref v3][i]? = some x → ∃ (ax : Addr) (t u : Int), x = .ref ax ∧ (∀ H, SqT K H ax [.int t, .int u]) ∧ t.natAbs ≤ 2 ∧ u.natAbs ≤ 2 ∧ ([(2, 0), (0, 1), (-2, 0), (0, -1)] : List (Int × Int)).getD i (0, 0) = (t, u) := by
        intro i x h
        rcases i with _ | _ | _ | _ | i
        · cases h
          exact ⟨_, _, _, rfl, hB0, by decide, by decide, rfl⟩
        · cases h
          exact ⟨_, _, _, rfl, hB1, by decide, by decide, rfl⟩
        · cases h
          exact ⟨_, _, _, rfl, hB2, by decide, by decide, rfl⟩
        · cases h
          exact ⟨_, _, _, rfl, hB3, by decide, by decide, rfl⟩
        · cases h
      refine R.lcTp (xs := [.ref v0, .ref v1, .ref v2, .ref v3]) (fun i => ucM A B C (([(2, 0), (0, 1), (-2, 0), (0, -1)] : List (Int × Int)).getD i (0, 0)).1 (([(2, 0), (0, 1), (-2, 0), (0, -1)] : List (Int × Int)).getD i (0, 0)).2) (by show 4 ≤ 1000; decide) (hU4 _) (fun i x H' Q' hx smx qx => ?_) (fun H5 D ys hD tp s5 nD => ?_)
      · obtain ⟨ax, t, u, rfl, sx, t2, u2, e⟩ := key i x hx
        rw [e] at qx
        have sx := sx H'
        have sP' := same_seqT smx sP
        have bt : Bd 8 t := Bd.of t2 (by decide)
        have bu : Bd 8 u := Bd.of u2 (by decide)
        clean_wf
        refine ⟨rfl, ?_⟩
        clean_wf
        exact qx _ _ sn (SqT.of ht)
      · refine kk _ _ _ (s1.trans s5) ?_ hD tp
        cases e : H D with
        | none => rfl
        | some o =>
          rw [s1 _ _ e] at nD
          cases nD
    · rw [decide_eq_false z4]
      rw [if_neg z4] at kk
      clean_wf
      refine R.refs (S := SqT K _) (xs := [.ref w0, .ref w1]) (hUO _) ?_
      have key : ∀ (i : Nat) (x : V), [V.ref w0, V.ref w1][i]? = some x → ∃ (ax : Addr) (t u : Int), x = .ref ax ∧ (∀ H, SqT K H ax [.int t, .int u]) ∧ t.natAbs ≤ 2 ∧ u.natAbs ≤ 2 ∧ ([(2, 0), (-2, 0)] : List (Int × Int)).getD i (0, 0) = (t, u) := by
        intro i x h
        rcases i with _ | _ | i
        · cases h
          exact ⟨_, _, _, rfl, hC0, by decide, by decide, rfl⟩
        · cases h
          exact ⟨_, _, _, rfl, hC1, by decide, by decide, rfl⟩
        · cases h
      refine R.lcTp (xs := [.ref w0, .ref w1]) (fun i => ucM A B C (([(2, 0), (-2, 0)] : List (Int × Int)).getD i (0, 0)).1 (([(2, 0), (-2, 0)] : List (Int × Int)).getD i (0, 0)).2) (by show 2 ≤ 1000; decide) (hUO _) (fun i x H' Q' hx smx qx => ?_) (fun H5 D ys hD tp s5 nD => ?_)
      · obtain ⟨ax, t, u, rfl, sx, t2, u2, e⟩ := key i x hx
        rw [e] at qx
        have sx := sx H'
        have sP' := same_seqT smx sP
        have bt : Bd 8 t := Bd.of t2 (by decide)
        have bu : Bd 8 u := Bd.of u2 (by decide)
        clean_wf
        refine ⟨rfl, ?_⟩
        clean_wf
        exact qx _ _ sn (SqT.of ht)
      · refine kk _ _ _ (s1.trans s5) ?_ hD tp
        cases e : H D with
        | none => rfl
        | some o =>
          rw [s1 _ _ e] at nD
          cases nD
def spIsReducedIndefinite (K : PySem.W.Frag) : Sp := fun vs H Q _ => ∃ (af : Addr) (a b c D : Int), vs = [.ref af] ∧ SqT K H af [.int a, .int b, .int c] ∧ IF D a b c ∧ Bd 60 a ∧ Bd 60 b ∧ Bd 60 c ∧ Q (.bl (decide (RedI D a b))) H
theorem uIsReducedIndefinite {K : PySem.W.Frag} {H : Hp} {Q : VK} {E : XK} {vs : List V} {af : Addr} {a b c D : Int} (e : vs = [.ref af]) (hs : SqT K H af [.int a, .int b, .int c]) (F : IF D a b c) (b1 : Bd 60 a) (b2 : Bd 60 b) (b3 : Bd 60 c) (kk : Q (.bl (decide (RedI D a b))) H) : spIsReducedIndefinite K vs H Q E := ⟨af, a, b, c, D, e, hs, F, b1, b2, b3, kk⟩
theorem okIsReducedIndefinite (T : Txt K mg fa fd) : FnOk P w K mg base CX0 2 (fa 31) (fd 31) ["form"] (spIsReducedIndefinite K) := by
  refine T.F_is_reduced_indefinite.ok scIsReducedIndefinite (fun vs H Q E h => ?_) (fun cdv A outer s H vs Q E hr h => ?_)
  · obtain ⟨af, a, b, c, D, rfl, hs, F, b1, b2, b3, kk⟩ := h
    rfl
  · obtain ⟨af, a, b, c, D, rfl, hs, F, b1, b2, b3, kk⟩ := h
    refine ⟨_, (pss_cons (ps_asg (pv 0) (pgT K 3 (by rfl) (pgs_cons (pg_name (i := 1) scIsReducedIndefinite.nd rfl (Or.inl rfl)) (pgs_cons (pg_name (i := 2) scIsReducedIndefinite.nd rfl (Or.inl rfl)) (pgs_cons (pg_name (i := 3) scIsReducedIndefinite.nd rfl (Or.inl rfl)) pgs_nil)))))
      (pss_cons (ps_set (i := 4) scIsReducedIndefinite.nd rfl (Or.inl rfl) (pe_call (sp := spFloorRoot K) (okFloorRoot T) hr (by rfl) T.G_floor_root T.F_floor_root.kp T.B_floor_root .nil pass0 (pa_cons (pe_call (sp := spDiscriminant K) (okDiscriminant T) hr (by rfl) T.G_discriminant T.F_discriminant.kp T.B_discriminant .nil pass0 (pa_cons (pv 0) pa_nil)) pa_nil)))
      (pss_one (ps_ret (pe_and (pe_chain op_lt op_le pe_int (pv 2) (pv 4)) (pe_one (pe_chain op_le op_lt (pe_op op_sub (pe_op op_mulW pe_int (pe_callB (absQ K) (by rfl) T.m_abs (by decide +kernel) (pa_cons (pv 1) pa_nil))) (pv 2)) (pv 4) (pe_op op_add (pe_op op_mulW pe_int (pe_callB (absQ K) (by rfl) T.m_abs (by decide +kernel) (pa_cons (pv 1) pa_nil))) (pv 2))))))))), ?_⟩
    have hd : b * b - 4 * a * c = D := F.d
    have d0 := F.d0
    have d1 := F.d1
    obtain ⟨r0, r1, _⟩ := F.root
    have br : Bd 60 (rootI D) := Bd.om (by omega)
    clean_wf
    rw [hd]
    clean_wf
    refine way2 (fun z1 => ?_) (fun z1 => ?_)
    rotate_left
    · rw [decide_eq_false (fun h => z1 h.1)] at kk
      clean_wf
    clean_wf
    refine way2 (fun z2 => ?_) (fun z2 => ?_)
    rotate_left
    · rw [decide_eq_false (fun h => z2 h.2.1)] at kk
      clean_wf
    clean_wf
    refine way2 (fun z3 => ?_) (fun z3 => ?_)
    rotate_left
    · rw [decide_eq_false (fun h => z3 h.2.2.1)] at kk
      clean_wf
    clean_wf
    have e : decide (RedI D a b) = decide (rootI D < 2 * (a.natAbs : Int) + b) := decide_eq_decide.mpr ⟨fun h => h.2.2.2, fun h => ⟨z1, z2, z3, h⟩⟩
    rw [e] at kk
    clean_wf
def spStepOf (K : PySem.W.Frag) : Sp := fun vs H Q _ => ∃ (af : Addr) (a b c D : Int), vs = [.ref af] ∧ SqT K H af [.int a, .int b, .int c] ∧ IF D a b c ∧ Bd 60 a ∧ Bd 60 b ∧ Bd 60 c ∧ R.Nw H [.int 0, .int (-1), .int 1, .int (nN D b c)] Q
theorem uStepOf {K : PySem.W.Frag} {H : Hp} {Q : VK} {E : XK} {vs : List V} {af : Addr} {a b c D : Int} (e : vs = [.ref af]) (hs : SqT K H af [.int a, .int b, .int c]) (F : IF D a b c) (b1 : Bd 60 a) (b2 : Bd 60 b) (b3 : Bd 60 c) (kk : R.Nw H [.int 0, .int (-1), .int 1, .int (nN D b c)] Q) : spStepOf K vs H Q E := ⟨af, a, b, c, D, e, hs, F, b1, b2, b3, kk⟩
theorem okStepOf (T : Txt K mg fa fd) : FnOk P w K mg base CX0 2 (fa 34) (fd 34) ["form"] (spStepOf K) := by
  refine T.F_step_of.ok scStepOf (fun vs H Q E h => ?_) (fun cdv A outer s H vs Q E hr h => ?_)
  · obtain ⟨af, a, b, c, D, rfl, hs, F, b1, b2, b3, kk⟩ := h
    rfl
  · obtain ⟨af, a, b, c, D, rfl, hs, F, b1, b2, b3, kk⟩ := h
    refine ⟨_, (pss_cons (ps_asg (pv 0) (pgT K 3 (by rfl) (pgs_cons (pg_name (i := 1) scStepOf.nd rfl (Or.inl rfl)) (pgs_cons (pg_name (i := 2) scStepOf.nd rfl (Or.inl rfl)) (pgs_cons (pg_name (i := 3) scStepOf.nd rfl (Or.inl rfl)) pgs_nil)))))
      (pss_cons (ps_set (i := 4) scStepOf.nd rfl (Or.inl rfl) (pe_call (sp := spFloorRoot K) (okFloorRoot T) hr (by rfl) T.G_floor_root T.F_floor_root.kp T.B_floor_root .nil pass0 (pa_cons (pe_call (sp := spDiscriminant K) (okDiscriminant T) hr (by rfl) T.G_discriminant T.F_discriminant.kp T.B_discriminant .nil pass0 (pa_cons (pv 0) pa_nil)) pa_nil)))
      (pss_cons (ps_set (i := 5) scStepOf.nd rfl (Or.inl rfl) (pe_op op_sub (pv 4) (pe_op op_mod (pe_op op_add (pv 4) (pv 2)) (pe_op op_mulW pe_int (pe_callB (absQ K) (by rfl) T.m_abs (by decide +kernel) (pa_cons (pv 3) pa_nil))))))
      (pss_one (ps_ret (pe_tup (pa_cons pe_int (pa_cons (pe_un un_neg pe_int) (pa_cons pe_int (pa_cons (pe_op op_fdivX (pe_op op_add (pv 2) (pv 5)) (pe_op op_mulW pe_int (pv 3))) pa_nil)))))))))), ?_⟩
    have hd : b * b - 4 * a * c = D := F.d
    have d0 := F.d0
    have d1 := F.d1
    have c0 := F.c0
    obtain ⟨r0, r1, _⟩ := F.root
    have br : Bd 60 (rootI D) := Bd.om (by omega)
    rw [← hd] at kk
    clean_wf
    refine kk _ _ ?_ (by assumption)
    array_mem_dec
def spStepNear (K : PySem.W.Frag) : Sp := fun vs H Q _ => ∃ (af : Addr) (a b c D : Int), vs = [.ref af] ∧ SqT K H af [.int a, .int b, .int c] ∧ IF D a b c ∧ Bd 60 a ∧ Bd 60 b ∧ Bd 60 c ∧ R.Nw H [.int 0, .int (-1), .int 1, .int (if rootI D < (c.natAbs : Int) then nF b c else nN D b c)] Q
theorem uStepNear {K : PySem.W.Frag} {H : Hp} {Q : VK} {E : XK} {vs : List V} {af : Addr} {a b c D : Int} (e : vs = [.ref af]) (hs : SqT K H af [.int a, .int b, .int c]) (F : IF D a b c) (b1 : Bd 60 a) (b2 : Bd 60 b) (b3 : Bd 60 c) (kk : R.Nw H [.int 0, .int (-1), .int 1, .int (if rootI D < (c.natAbs : Int) then nF b c else nN D b c)] Q) : spStepNear K vs H Q E := ⟨af, a, b, c, D, e, hs, F, b1, b2, b3, kk⟩
theorem okStepNear (T : Txt K mg fa fd) : FnOk P w K mg base CX0 3 (fa 33) (fd 33) ["form"] (spStepNear K) := by
  refine T.F__step_near.ok scStepNear (fun vs H Q E h => ?_) (fun cdv A outer s H vs Q E hr h => ?_)
  · obtain ⟨af, a, b, c, D, rfl, hs, F, b1, b2, b3, kk⟩ := h
    rfl
  · obtain ⟨af, a, b, c, D, rfl, hs, F, b1, b2, b3, kk⟩ := h
    refine ⟨_, (pss_cons (ps_asg (pv 0) (pgT K 3 (by rfl) (pgs_cons (pg_name (i := 1) scStepNear.nd rfl (Or.inl rfl)) (pgs_cons (pg_name (i := 2) scStepNear.nd rfl (Or.inl rfl)) (pgs_cons (pg_name (i := 3) scStepNear.nd rfl (Or.inl rfl)) pgs_nil)))))
      (pss_cons (ps_if (pt_cmp (pc_gt (pe_callB (absQ K) (by rfl) T.m_abs (by decide +kernel) (pa_cons (pv 3) pa_nil)) (pe_call (sp := spFloorRoot K) (okFloorRoot T) (hr.mono (by decide)) (by rfl) T.G_floor_root T.F_floor_root.kp T.B_floor_root .nil pass0 (pa_cons (pe_call (sp := spDiscriminant K) (okDiscriminant T) (hr.mono (by decide)) (by rfl) T.G_discriminant T.F_discriminant.kp T.B_discriminant .nil pass0 (pa_cons (pv 0) pa_nil)) pa_nil))))
      (pss_one (ps_ret (pe_tup (pa_cons pe_int (pa_cons (pe_un un_neg pe_int) (pa_cons pe_int (pa_cons (pe_op op_mulW (pe_op op_fdivX (pe_op op_add (pv 2) (pe_callB (absQ K) (by rfl) T.m_abs (by decide +kernel) (pa_cons (pv 3) pa_nil))) (pe_op op_mulW pe_int (pe_callB (absQ K) (by rfl) T.m_abs (by decide +kernel) (pa_cons (pv 3) pa_nil)))) (pe_ifExp (pt_cmp (pc_gt (pv 3) pe_int)) pe_int (pe_un un_neg pe_int))) pa_nil)))))))
      pss_nil)
      (pss_one (ps_ret (pe_call (sp := spStepOf K) (okStepOf T) hr (by rfl) T.G_step_of T.F_step_of.kp T.B_step_of .nil pass0 (pa_cons (pv 0) pa_nil)))))), ?_⟩
    have hd : b * b - 4 * a * c = D := F.d
    have d0 := F.d0
    have d1 := F.d1
    have c0 := F.c0
    obtain ⟨r0, r1, _⟩ := F.root
    have br : Bd 60 (rootI D) := Bd.om (by omega)
    clean_wf
    rw [hd]
    clean_wf
    refine way2 (fun z => ?_) (fun z => ?_)
    · rw [if_pos z] at kk
      clean_wf
      refine way2 (fun y => ?_) (fun y => ?_)
      · have e : nF b c = (b + (c.natAbs : Int)).fdiv (2 * (c.natAbs : Int)) * 1 := by
          unfold nF
          rw [if_pos y]
        rw [e] at kk
        clean_wf
        exact kk _ _ sn ht
      · have e : nF b c = (b + (c.natAbs : Int)).fdiv (2 * (c.natAbs : Int)) * -1 := by
          unfold nF
          rw [if_neg y]
        rw [e] at kk
        clean_wf
        exact kk _ _ sn ht
    · rw [if_neg z] at kk
      clean_wf
/-- what reduce_indefinite gives -/
structure RdI (D a0 b0 c0 a b c p q r s : Int) : Prop where
  F : IF D a b c
  ea : a = fA a0 b0 c0 p r
  eb : b = fB a0 b0 c0 p q r s
  ec : c = fA a0 b0 c0 q s
  det : p * s - q * r = 1
  ba : (a.natAbs : Int) ≤ 1099511627776
  bb : (b.natAbs : Int) ≤ 1099511627776
  bc : (c.natAbs : Int) ≤ 1099511627776
def spReduceIndefinite (K : PySem.W.Frag) : Sp := fun vs H Q _ => ∃ (af : Addr) (a b c D : Int), vs = [.ref af] ∧ SqT K H af [.int a, .int b, .int c] ∧ IF D a b c ∧ (a.natAbs : Int) ≤ 1099511627776 ∧ (b.natAbs : Int) ≤ 1099511627776 ∧ (c.natAbs : Int) ≤ 1099511627776 ∧
  ∀ H' t tf tm a' b' c' p q r s, Same H H' → H' t = some (.tup [.ref tf, .ref tm]) → SqT K H' tf [.int a', .int b', .int c'] → SqT K H' tm [.int p, .int q, .int r, .int s] → RdI D a b c a' b' c' p q r s → RedI D a' b' → Bd 14100 p → Bd 14100 q → Bd 14100 r → Bd 14100 s → Q (.ref t) H'
theorem RdI.step {D a0 b0 c0 a b c p q r s n : Int} (h : RdI D a0 b0 c0 a b c p q r s) (b1 : ((-b + 2 * c * n).natAbs : Int) ≤ 1099511627776) (b2 : ((a - b * n + c * n * n).natAbs : Int) ≤ 1099511627776) :
    RdI D a0 b0 c0 c (-b + 2 * c * n) (a - b * n + c * n * n) (p * 0 + q * 1) (p * (-1) + q * n) (r * 0 + s * 1) (r * (-1) + s * n) := by
  obtain ⟨F, ea, eb, ec, det, ba, bb, bc⟩ := h
  refine ⟨F.go n, ?_, ?_, ?_, ?_, bc, b1, b2⟩
  · rw [← actA, ← ea, ← eb, ← ec]
    unfold fA
    grind
  · rw [← actB, ← ea, ← eb, ← ec]
    unfold fB
    grind
  · rw [← actA, ← ea, ← eb, ← ec]
    unfold fA
    grind
  · grind
theorem uReduceIndefinite {K : PySem.W.Frag} {H : Hp} {Q : VK} {E : XK} {vs : List V} {af : Addr} {a b c D : Int} (e : vs = [.ref af]) (hs : SqT K H af [.int a, .int b, .int c]) (F : IF D a b c) (b1 : (a.natAbs : Int) ≤ 1099511627776) (b2 : (b.natAbs : Int) ≤ 1099511627776) (b3 : (c.natAbs : Int) ≤ 1099511627776)
    (kk : ∀ H' t tf tm a' b' c' p q r s, Same H H' → H' t = some (.tup [.ref tf, .ref tm]) → SqT K H' tf [.int a', .int b', .int c'] → SqT K H' tm [.int p, .int q, .int r, .int s] → RdI D a b c a' b' c' p q r s → RedI D a' b' → Bd 14100 p → Bd 14100 q → Bd 14100 r → Bd 14100 s → Q (.ref t) H') : spReduceIndefinite K vs H Q E := ⟨af, a, b, c, D, e, hs, F, b1, b2, b3, kk⟩
theorem act_go (a b c n : Int) : a * 0 * 0 + b * 0 * 1 + c * 1 * 1 = c ∧ 2 * a * 0 * (-1) + b * (0 * n + (-1) * 1) + 2 * c * 1 * n = -b + 2 * c * n ∧ a * (-1) * (-1) + b * (-1) * n + c * n * n = a - b * n + c * n * n := by
  refine ⟨by omega, ?_, ?_⟩
  · grind
  · grind
theorem okReduceIndefinite (T : Txt K mg fa fd) : FnOk P w K mg base CX0 4 (fa 32) (fd 32) ["form"] (spReduceIndefinite K) := by
  refine T.F_reduce_indefinite.ok scReduceIndefinite (fun vs H Q E h => ?_) (fun cdv A outer s H vs Q E hr h => ?_)
  · obtain ⟨af, a0, b0, c0, D, rfl, hs, F0, b1, b2, b3, kk⟩ := h
    rfl
  · obtain ⟨af, a0, b0, c0, D, rfl, hs, F0, b1, b2, b3, kk⟩ := h
    refine ⟨_, (pss_cons (ps_set (i := 1) scReduceIndefinite.nd rfl (Or.inl rfl) (pe_glob (v := .ref (fa 71)) (by rfl) T.g_UNIT rfl))
      (pss_cons (ps_while PassesOwn.never (pt_not (pt_val (pe_call (sp := spIsReducedIndefinite K) (okIsReducedIndefinite T) (hr.mono (by decide)) (by rfl) T.G_is_reduced_indefinite T.F_is_reduced_indefinite.kp T.B_is_reduced_indefinite .nil pass0 (pa_cons (pv 0) pa_nil))))
      (pss_cons (ps_set (i := 2) scReduceIndefinite.nd rfl (Or.inl rfl) (pe_call (sp := spStepNear K) (okStepNear T) hr (by rfl) T.G__step_near T.F__step_near.kp T.B__step_near .nil pass0 (pa_cons (pv 0) pa_nil)))
        (pss_cons (ps_set (i := 0) scReduceIndefinite.nd rfl (Or.inl rfl) (pe_call (sp := spAct K) (okAct T) (hr.mono (by decide)) (by rfl) T.G_act T.F_act.kp T.B_act .nil pass0 (pa_cons (pv 0) (pa_cons (pv 2) pa_nil))))
        (pss_one (ps_set (i := 1) scReduceIndefinite.nd rfl (Or.inl rfl) (pe_call (sp := spMultiply K) (okMultiply T) (hr.mono (by decide)) (by rfl) T.G_multiply T.F_multiply.kp T.B_multiply .nil pass0 (pa_cons (pv 1) (pa_cons (pv 2) pa_nil))))))))
      (pss_one (ps_ret (pe_tup (pa_cons (pv 0) (pa_cons (pv 1) pa_nil))))))), ?_⟩
    have hU := fun H => T.S_UNIT H
    clean_wf
    refine ⟨fun m σ H' => ∃ (tf tm : Addr) (x2 : Option V) (a b c p q r s : Int) (i k : Nat), σ = [some (.ref tf), some (.ref tm), x2] ∧ Same H H' ∧ SqT K H' tf [.int a, .int b, .int c] ∧ SqT K H' tm [.int p, .int q, .int r, .int s] ∧ RdI D a0 b0 c0 a b c p q r s ∧
        Bd (70 * i + 1) p ∧ Bd (70 * i + 1) q ∧ Bd (70 * i + 1) r ∧ Bd (70 * i + 1) s ∧ ((RedI D a b ∧ m = 0 ∧ i ≤ 201) ∨ (¬ RedI D a b ∧ m = k + 1 ∧ i + k ≤ 200 ∧ Pt (rootI D) c k)), ?_, ?_⟩
    · have R0 : RdI D a0 b0 c0 a0 b0 c0 1 0 0 1 := ⟨F0, by unfold fA; omega, by unfold fB; omega, by unfold fA; omega, by decide, b1, b2, b3⟩
      by_cases z : RedI D a0 b0
      · exact ⟨0, _, _, _, a0, b0, c0, 1, 0, 0, 1, 0, 0, rfl, Same.refl _, by simp_wf, by simp_wf, R0, by unfold Bd; decide, by unfold Bd; decide, by unfold Bd; decide, by unfold Bd; decide, .inl ⟨z, rfl, by omega⟩⟩
      · refine ⟨142 + 1, _, _, _, a0, b0, c0, 1, 0, 0, 1, 0, 142, rfl, Same.refl _, by simp_wf, by simp_wf, R0, by unfold Bd; decide, by unfold Bd; decide, by unfold Bd; decide, by unfold Bd; decide, .inr ⟨z, rfl, by omega, ?_⟩⟩
        exact .inr ⟨41, rfl, by show c0.natAbs < 2199023255552; omega⟩
    rintro m σ H' ⟨tf, tm, x2, a, b, c, p, q, r, s, i, k, rfl, sm, sf, st, RI, e1, e2, e3, e4, hm⟩
    have F := RI.F
    have ba := RI.ba
    have bb := RI.bb
    have bc := RI.bc
    have g1 : Bd 60 a := Bd.om (by omega)
    have g2 : Bd 60 b := Bd.om (by omega)
    have g3 : Bd 60 c := Bd.om (by omega)
    clean_wf
    refine wayN2 (fun z => ?_) (fun z => ?_)
    · obtain ⟨hm, hik, hpt⟩ : m = k + 1 ∧ i + k ≤ 200 ∧ Pt (rootI D) c k := by
        rcases hm with ⟨h, _⟩ | ⟨_, h⟩
        · exact absurd h z
        · exact h
      obtain ⟨r0, r1, r2, r3⟩ := F.root
      have c0' := F.c0
      obtain ⟨v1, v2, v3⟩ := bN_spec (D := D) (b := b) c0'
      have w1 := nF_spec (b := b) c0'
      generalize hn : (if rootI D < (c.natAbs : Int) then nF b c else nN D b c) = n
      have hb : ((-b + 2 * c * n).natAbs : Int) ≤ 1099511627776 := by
        by_cases y : rootI D < (c.natAbs : Int)
        · rw [if_pos y] at hn
          rw [← hn]
          omega
        · rw [if_neg y] at hn
          rw [← hn, v3]
          omega
      have hns := n_size c0' bb hb
      have bn : Bd 60 n := Bd.om (by omega)
      have F2 := F.go n
      have next : ∃ k', (RedI D c (-b + 2 * c * n) ∧ k' = 0 ∨ ¬ RedI D c (-b + 2 * c * n) ∧ k' < k ∧ Pt (rootI D) (a - b * n + c * n * n) k') ∧ ((a - b * n + c * n * n).natAbs : Int) ≤ 1099511627776 := by
        by_cases y : rootI D < (c.natAbs : Int)
        · rw [if_pos y] at hn
          have f := F2.far y (by rw [← hn]; exact w1)
          obtain ⟨k', h1, h2⟩ := hpt.far r1 y f c0'
          by_cases x : RedI D c (-b + 2 * c * n)
          · exact ⟨0, .inl ⟨x, rfl⟩, by omega⟩
          · exact ⟨k', .inr ⟨x, h1, h2⟩, by omega⟩
        · rw [if_neg y] at hn
          have e : -b + 2 * c * n = bN D b c := by
            rw [← hn]
            exact v3
          have sq : (-b + 2 * c * n) * (-b + 2 * c * n) ≤ 10000 := by
            rw [e, ← sq_abs]
            exact Int.mul_le_mul (show ((bN D b c).natAbs : Int) ≤ 100 by omega) (show ((bN D b c).natAbs : Int) ≤ 100 by omega) (by omega) (by omega)
          have sm := F2.small sq
          rcases F2.near (by omega) (by rw [e]; exact v1) (by rw [e]; exact v2) with f | f
          · exact ⟨0, .inl ⟨f, rfl⟩, by omega⟩
          · obtain ⟨k', h1, h2⟩ := hpt.near r1 (by omega) f
            by_cases x : RedI D c (-b + 2 * c * n)
            · exact ⟨0, .inl ⟨x, rfl⟩, by omega⟩
            · exact ⟨k', .inr ⟨x, h1, h2⟩, by omega⟩
      obtain ⟨k', hk', hcc⟩ := next
      have R2 := RI.step hb hcc
      obtain ⟨ga, gb, gc⟩ := act_go a b c n
      refine ⟨fun σ' H2 => ∃ m' < m, ∃ (tf tm : Addr) (x2 : Option V) (a b c p q r s : Int) (i k : Nat), σ' = [some (.ref tf), some (.ref tm), x2] ∧ Same H H2 ∧ SqT K H2 tf [.int a, .int b, .int c] ∧ SqT K H2 tm [.int p, .int q, .int r, .int s] ∧ RdI D a0 b0 c0 a b c p q r s ∧
        Bd (70 * i + 1) p ∧ Bd (70 * i + 1) q ∧ Bd (70 * i + 1) r ∧ Bd (70 * i + 1) s ∧ ((RedI D a b ∧ m' = 0 ∧ i ≤ 201) ∨ (¬ RedI D a b ∧ m' = k + 1 ∧ i + k ≤ 200 ∧ Pt (rootI D) c k)), fun σ' H2 h => h, ?_⟩
      have hm2 : ∃ m', m' < m ∧ ((RedI D c (-b + 2 * c * n) ∧ m' = 0 ∧ i + 1 ≤ 201) ∨ (¬ RedI D c (-b + 2 * c * n) ∧ m' = k' + 1 ∧ i + 1 + k' ≤ 200 ∧ Pt (rootI D) (a - b * n + c * n * n) k')) := by
        rcases hk' with ⟨x, _⟩ | ⟨x, y, w⟩
        · exact ⟨0, by omega, .inl ⟨x, rfl, by omega⟩⟩
        · exact ⟨k' + 1, by omega, .inr ⟨x, rfl, by omega, w⟩⟩
      obtain ⟨m', hlt, hdis⟩ := hm2
      have y0 : Bd 1 0 := by unfold Bd; decide
      have y1 : Bd 1 1 := by unfold Bd; decide
      have ym : Bd 1 (-1) := by unfold Bd; decide
      clean_wf
      refine ⟨m', hlt, _, _, _, c, -b + 2 * c * n, a - b * n + c * n * n, p * 0 + q * 1, p * (-1) + q * n, r * 0 + s * 1, r * (-1) + s * n, i + 1, k', rfl, ?_, ?_, ?_, R2, ((e1.mul y0).add (e2.mul y1)).mono (by omega), ((e1.mul ym).add (e2.mul bn)).mono (by omega), ((e3.mul y0).add (e4.mul y1)).mono (by omega), ((e3.mul ym).add (e4.mul bn)).mono (by omega), hdis⟩
      · array_mem_dec
      · have h : ∀ t, SqT K HN t [.int (a * 0 * 0 + b * 0 * 1 + c * 1 * 1), .int (2 * a * 0 * (-1) + b * (0 * n + (-1) * 1) + 2 * c * 1 * n), .int (a * (-1) * (-1) + b * (-1) * n + c * n * n)] → SqT K HN t [.int c, .int (-b + 2 * c * n), .int (a - b * n + c * n * n)] := by
          intro t h
          rw [ga, gb, gc] at h
          exact h
        refine h _ ?_
        rw [← hn]
        simp_wf
      · rw [← hn]
        simp_wf
    · have hi : i ≤ 201 := by
        rcases hm with ⟨_, _, h⟩ | ⟨h, _⟩
        · exact h
        · exact absurd z h
      clean_wf
      exact kk _ _ tf tm a b c p q r s (sm.trans sn) ht (same_seqT sn sf) (same_seqT sn st) RI z (e1.mono (by omega)) (e2.mono (by omega)) (e3.mono (by omega)) (e4.mono (by omega))
def spCycle (K : PySem.W.Frag) : Sp := fun vs H Q _ => ∃ (af : Addr) (a b c D : Int) (k : Nat), vs = [.ref af] ∧ SqT K H af [.int a, .int b, .int c] ∧ IF D a b c ∧ RedI D a b ∧ Cyc D (a, b, c) (k + 1) ∧ k + 1 ≤ 1624 ∧
  ∀ H' l ys, Same H H' → H l = none → H' l = some (.lst ys) → Pps K H' ys (ringP D (a, b, c) (k + 1)) → Q (.ref l) H'
theorem uCycle {K : PySem.W.Frag} {H : Hp} {Q : VK} {E : XK} {vs : List V} {af : Addr} {a b c D : Int} {k : Nat} (e : vs = [.ref af]) (hs : SqT K H af [.int a, .int b, .int c]) (F : IF D a b c) (h1 : RedI D a b) (h2 : Cyc D (a, b, c) (k + 1)) (h3 : k + 1 ≤ 1624)
    (kk : ∀ H' l ys, Same H H' → H l = none → H' l = some (.lst ys) → Pps K H' ys (ringP D (a, b, c) (k + 1)) → Q (.ref l) H') : spCycle K vs H Q E := ⟨af, a, b, c, D, k, e, hs, F, h1, h2, h3, kk⟩
theorem okCycle (T : Txt K mg fa fd) : FnOk P w K mg base CX0 3 (fa 35) (fd 35) ["form"] (spCycle K) := by
  refine T.F_cycle.ok scCycle (fun vs H Q E h => ?_) (fun cdv A outer s H vs Q E hr h => ?_)
  · obtain ⟨af, a, b, c, D, k, rfl, hs, F, R0, cy, hk, kk⟩ := h
    rfl
  · obtain ⟨af, a, b, c, D, k, rfl, hs, F, R0, cy, hk, kk⟩ := h
    refine ⟨_, (pss_cons (ps_set (i := 1) scCycle.nd rfl (Or.inl rfl) (pe_lst (pa_cons (pe_tup (pa_cons (pv 0) (pa_cons (pe_glob (v := .ref (fa 71)) (by rfl) T.g_UNIT rfl) pa_nil))) pa_nil)))
      (pss_cons (ps_set (i := 2) scCycle.nd rfl (Or.inl rfl) (pe_call (sp := spStepOf K) (okStepOf T) hr (by rfl) T.G_step_of T.F_step_of.kp T.B_step_of .nil pass0 (pa_cons (pv 0) pa_nil)))
      (pss_cons (ps_par (i := 3) (j := 4) (by rfl) scCycle.nd rfl rfl (by decide) rfl rfl (pa_cons (pe_call (sp := spAct K) (okAct T) hr (by rfl) T.G_act T.F_act.kp T.B_act .nil pass0 (pa_cons (pv 0) (pa_cons (pv 2) pa_nil))) (pa_cons (pv 2) pa_nil)) (by rfl))
      (pss_cons (ps_while PassesOwn.never (pt_cmpR (neDQ K hr.units) (pv 3) (pv 0) (nomark _))
      (pss_cons (ps_expr (pe_bm PySem.F.plainAttrs_list PySem.F.slot_list_append PySem.F.type_list_append mt_append (pv 1) (pa_cons (pe_tup (pa_cons (pv 3) (pa_cons (pv 4) pa_nil))) pa_nil)))
        (pss_cons (ps_set (i := 2) scCycle.nd rfl (Or.inl rfl) (pe_call (sp := spStepOf K) (okStepOf T) hr (by rfl) T.G_step_of T.F_step_of.kp T.B_step_of .nil pass0 (pa_cons (pv 3) pa_nil)))
        (pss_one (ps_par (i := 3) (j := 4) (by rfl) scCycle.nd rfl rfl (by decide) rfl rfl (pa_cons (pe_call (sp := spAct K) (okAct T) hr (by rfl) T.G_act T.F_act.kp T.B_act .nil pass0 (pa_cons (pv 3) (pa_cons (pv 2) pa_nil))) (pa_cons (pe_call (sp := spMultiply K) (okMultiply T) (hr.mono (by decide)) (by rfl) T.G_multiply T.F_multiply.kp T.B_multiply .nil pass0 (pa_cons (pv 4) (pa_cons (pv 2) pa_nil))) pa_nil)) (by rfl))))))
      (pss_one (ps_ret (pv 1))))))), ?_⟩
    have hU := fun H => T.S_UNIT H
    obtain ⟨g1, g2, g3⟩ := red_bd F R0
    have hn1 := nK_small (D := D) (f := (a, b, c)) F R0
    have bn : Bd 10 (nN D b c) := Bd.of (m := 100) hn1 (by decide)
    clean_wf
    rename_i Ha ta sa na hta Hb tb sb htb Hc tc sc htc
    have nD : H tb = none := by
      cases e : H tb with
      | none => rfl
      | some o =>
        rw [sa _ _ e] at nn
        cases nn
    refine ⟨fun m σ H' => ∃ (ys : List V) (tst tot tmt : Addr) (i : Nat), σ = [some (.ref af), some (.ref tb), some (.ref tst), some (.ref tot), some (.ref tmt)] ∧ m = k - i ∧ i ≤ k ∧ Same H H' ∧ H' tb = some (.lst ys) ∧ Pps K H' ys (ringP D (a, b, c) (i + 1)) ∧
      SqT K H' tot ((fL (rhoN D (i + 1) (a, b, c))).map V.int) ∧ SqT K H' tmt ((mL (mN D (a, b, c) (i + 1))).map V.int), ?_, ?_⟩
    · refine ⟨k - 0, [.ref ta], tc, tn, tc, 0, rfl, rfl, Nat.zero_le _, by array_mem_dec, sn _ _ (sc _ _ htb), ?_, SqT.of ht, ?_⟩
      · rw [ringP_cons]
        exact .cons (f := fL (a, b, c)) (m := mL (1, 0, 0, 1)) (by simp_wf) (show SqT K HN af [V.int a, V.int b, V.int c] by simp_wf) (hU HN) .nil
      · rw [mN_one]
        show SqT K HN tc [V.int 0, V.int (-1), V.int 1, V.int (nN D b c)]
        simp_wf
    rintro m σ H' ⟨ys, tst, tot, tmt, i, rfl, hm, hi, sm, hl, pp, so, smt⟩
    have sf := same_seqT sm hs
    obtain ⟨Fi, Ri⟩ := rhoN_ok (f := (a, b, c)) (i + 1) F R0
    obtain ⟨_, _, mb⟩ := mN_ok (f := (a, b, c)) F R0 (i + 1)
    have nxt : rhoN D (i + 1 + 1) (a, b, c) = rho D (rhoN D (i + 1) (a, b, c)) := rhoN_succ D (i + 1) (a, b, c)
    have mnx : mN D (a, b, c) (i + 1 + 1) = mStep (mN D (a, b, c) (i + 1)) (nK D (rhoN D (i + 1) (a, b, c))) := rfl
    have last : i = k → rhoN D (i + 1) (a, b, c) = (a, b, c) := fun e => by
      rw [e]
      exact cy.back
    have other : i ≠ k → rhoN D (i + 1) (a, b, c) ≠ (a, b, c) := fun e => cy.first (i + 1) (by omega) (by omega)
    have hrp := ringP_snoc D (a, b, c) (i + 1)
    have hyl := pp.len
    rw [ringP_len] at hyl
    have hni := nK_small Fi Ri
    generalize mN D (a, b, c) (i + 1) = M at *
    generalize rhoN D (i + 1) (a, b, c) = g at *
    obtain ⟨x, y, z⟩ := g
    obtain ⟨m1, m2, m3, m4⟩ := M
    obtain ⟨e1, e2, e3, e4⟩ := mb
    have e1 := e1.mono (show 14 * (i + 1) + 1 ≤ 22800 by omega)
    have e2 := e2.mono (show 14 * (i + 1) + 1 ≤ 22800 by omega)
    have e3 := e3.mono (show 14 * (i + 1) + 1 ≤ 22800 by omega)
    have e4 := e4.mono (show 14 * (i + 1) + 1 ≤ 22800 by omega)
    have Fi : IF D x y z := Fi
    have Ri : RedI D x y := Ri
    obtain ⟨u1, u2, u3⟩ := red_bd Fi Ri
    have bi : Bd 10 (nN D y z) := Bd.of (m := 100) hni (by decide)
    change SqT K H' tot [V.int x, V.int y, V.int z] at so
    change SqT K H' tmt [V.int m1, V.int m2, V.int m3, V.int m4] at smt
    clean_wf
    refine wayN2 (fun hz => ?_) (fun hz => ?_)
    · have ik : i < k := by
        rcases Nat.lt_or_ge i k with h | h
        · exact h
        · have e := last (by omega)
          injection e with e1 e2
          injection e2 with e2 e3
          exact absurd ⟨e1, e2, e3⟩ hz
      refine ⟨fun σ' H2 => ∃ m' < m, ∃ (ys : List V) (tst tot tmt : Addr) (i : Nat), σ' = [some (.ref af), some (.ref tb), some (.ref tst), some (.ref tot), some (.ref tmt)] ∧ m' = k - i ∧ i ≤ k ∧ Same H H2 ∧ H2 tb = some (.lst ys) ∧ Pps K H2 ys (ringP D (a, b, c) (i + 1)) ∧
        SqT K H2 tot ((fL (rhoN D (i + 1) (a, b, c))).map V.int) ∧ SqT K H2 tmt ((mL (mN D (a, b, c) (i + 1))).map V.int), fun σ' H2 h => h, ?_⟩
      clean_wf
      have hln := sn _ _ hl
      refine R.app hln (by omega) (fun H5 e5 h5 => ?_)
      have s5 : KT K HN H5 := by
        rw [e5]
        exact kt_off hln
      have sm5 : Same H H5 := by
        rw [e5]
        exact same_mut (sm.trans sn) nD
      have so5 := s5 _ _ (same_seqT sn so)
      have smt5 := s5 _ _ (same_seqT sn smt)
      have pp5 : Pps K H5 (ys ++ [.ref tn]) (ringP D (a, b, c) (i + 1 + 1)) := by
        rw [hrp]
        exact ((pp.same sn).kt s5).snoc (s5 _ _ (SqT.of ht)) so5 smt5
      clear s5 pp so smt
      generalize tn = tq at *
      clean_wf
      rename_i H6 t6 s6 ht6 H7 t7 s7 ht7
      refine ⟨k - (i + 1), by omega, _, _, _, _, i + 1, rfl, rfl, by omega, by array_mem_dec, sn _ _ (s7 _ _ (s6 _ _ h5)), pp5.same (by array_mem_dec), ?_, ?_⟩
      · rw [nxt]
        exact same_seqT sn (SqT.of ht7)
      · rw [mnx]
        exact SqT.of ht
    · skip
      clean_wf
      have ik : i = k := by
        by_cases h : i = k
        · exact h
        · exact absurd (by rw [hz.1, hz.2.1, hz.2.2]) (other h)
      subst ik
      exact kk _ _ _ sm nD hl pp
def SgQ (K : PySem.W.Frag) (H : Hp) (f0 : Fm) (Q : VK) : Prop := ∀ (H' : Hp) (t l : Addr) (zs : List V), Same H H' → H l = none → H' t = some (.tup [.ref l, .non]) → H' l = some (.lst zs) → Tps K H' zs ((gsF f0).map mL) → Q (.ref t) H'
def spSelfGroup (K : PySem.W.Frag) : Sp := fun vs H Q _ => ∃ (af : Addr) (f0 : Fm) (g n : Int), vs = [.ref af] ∧ SqT K H af ((fL (scF g f0)).map V.int) ∧ FrOk f0 g n ∧ dcF f0 < 0 ∧ SgQ K H f0 Q
theorem uSelfGroup {K : PySem.W.Frag} {H : Hp} {Q : VK} {E : XK} {vs : List V} {af : Addr} {f0 : Fm} {g n : Int} (e : vs = [.ref af]) (hs : SqT K H af ((fL (scF g f0)).map V.int)) (ok : FrOk f0 g n) (d0 : dcF f0 < 0) (kk : SgQ K H f0 Q) : spSelfGroup K vs H Q E := ⟨af, f0, g, n, e, hs, ok, d0, kk⟩
theorem okSelfGroup (T : Txt K mg fa fd) : FnOk P w K mg base CX0 4 (fa 36) (fd 36) ["form"] (spSelfGroup K) := by
  refine T.F_self_group.ok scSelfGroup (fun vs H Q E h => ?_) (fun cdv A outer s H vs Q E hr h => ?_)
  · obtain ⟨af, f0, g, n, rfl, hs, ok, d0, kk⟩ := h
    rfl
  · obtain ⟨af, f0, g, n, rfl, hs, ok, d0, kk⟩ := h
    refine ⟨_, (pss_cons (ps_if (pt_cmp (pc_eqI (pe_call (sp := spContent K) (okContent T) (hr.mono (by decide)) (by rfl) T.G_content T.F_content.kp T.B_content .nil pass0 (pa_cons (pv 0) pa_nil)) pe_int))
      (pss_one (ps_ret pe_non))
      pss_nil)
      (pss_cons (ps_set (i := 1) scSelfGroup.nd rfl (Or.inl rfl) (pe_call (sp := spKind K) (okKind T) hr (by rfl) T.G_kind T.F_kind.kp T.B_kind .nil pass0 (pa_cons (pv 0) pa_nil)))
      (pss_cons (ps_if (pt_cmpR op_eq (pv 1) pe_str (nomark _))
      (pss_one (ps_ret (pe_tup (pa_cons (pe_call (sp := spSelfChanges K) (okSelfChanges T) hr (by rfl) T.G_self_changes T.F_self_changes.kp T.B_self_changes .nil pass0 (pa_cons (pv 0) pa_nil)) (pa_cons pe_non pa_nil)))))
      pss_nil)
      (pss_cons ps_never
      (pss_cons (ps_if (pt_cmpR op_eq (pv 1) pe_str (nomark _))
      (pss_one ps_never)
      pss_nil)
      (pss_cons (ps_if (pt_cmpR op_eq (pv 1) pe_str (nomark _))
      (pss_one ps_never)
      pss_nil)
      (pss_cons ps_never
      (pss_one ps_never)))))))), ?_⟩
    obtain ⟨A, B, C⟩ := f0
    obtain ⟨g0, g1, gl, p1, N, b1, b2, b3, n0, nb9, num⟩ := ok
    have hs : SqT K H af [.int (g * A), .int (g * B), .int (g * C)] := hs
    have gl : gL [g * A, g * B, g * C] = g := gl
    have bA : Bd 20 A := Nat.lt_of_le_of_lt (show A.natAbs ≤ 1000000 from b1) (by decide)
    have bB : Bd 20 B := Nat.lt_of_le_of_lt (show B.natAbs ≤ 1000000 from b2) (by decide)
    have bC : Bd 20 C := Nat.lt_of_le_of_lt (show C.natAbs ≤ 1000000 from b3) (by decide)
    have bg : Bd 20 g := Nat.lt_of_le_of_lt (show g.natAbs ≤ 1000000 by omega) (by decide)
    have bgA : Bd 3000 (g * A) := (bg.mul bA).mono (by decide)
    have bgB : Bd 3000 (g * B) := (bg.mul bB).mono (by decide)
    have bgC : Bd 3000 (g * C) := (bg.mul bC).mono (by decide)
    have ed : dsc (g * A) (g * B) (g * C) = g * g * dcF (A, B, C) := by
      unfold dcF dsc
      dsimp only
      grind
    have hk : kindS (dsc (g * A) (g * B) (g * C)) = "definite" := by
      unfold kindS
      rw [ed, if_pos (Int.mul_neg_of_pos_of_neg (Int.mul_pos g0 g0) d0)]
    clean_wf
    rw [gl]
    refine wayF (fun z => by omega) ?_
    clean_wf
    rw [hk]
    refine wayT rfl ?_
    clean_wf
    refine ⟨af, g * A, g * B, g * C, rfl, hs, by rw [gl]; omega, by rw [gl]; exact bg.mono (by decide), (bg.mul bA).mono (by decide), (bg.mul bB).mono (by decide), (bg.mul bC).mono (by decide), ?_⟩
    intro H1 l1 zs s1 nl hl1 tp
    rw [selfL_gs g0 gl] at tp
    clean_wf
    exact kk _ tn l1 zs (s1.trans sn) nl ht (sn _ _ hl1) (tp.same sn)
def spJoined (K : PySem.W.Frag) : Sp := fun vs H Q _ => ∃ (a b : Addr) (m1 m2 : Nat) (L1 L2 : List Int) (z : Int), vs = [.ref a, .int (m1 : Int), .ref b, .int (m2 : Int)] ∧ H a = some (.lst (L1.map V.int)) ∧ H b = some (.lst (L2.map V.int)) ∧ 0 < m1 ∧ 0 < m2 ∧ m1 < 2 ^ 60 ∧ m2 < 2 ^ 60 ∧ gI (m1 : Int) (m2 : Int) = 1 ∧ Rts z m1 L1 ∧ Rts z m2 L2 ∧ L1.length * L2.length ≤ 16000000 ∧
  ∀ H' r ns, Same H H' → H r = none → H' r = some (.lst (ns.map V.int)) → Rts z (m1 * m2) ns → ns.length = L1.length * L2.length → Q (.ref r) H'
theorem okJoined (T : Txt K mg fa fd) : FnOk P w K mg base CX0 2 (fa 39) (fd 39) ["roots", "modulus", "others", "part"] (spJoined K) := by
  refine T.F__joined.ok scJoined (fun vs H Q E h => ?_) (fun cdv A outer s H vs Q E hr h => ?_)
  · obtain ⟨a, b, m1, m2, L1, L2, z, rfl, ha, hb, p1, p2, b1, b2, hg, R1, R2, hl, q⟩ := h
    rfl
  · obtain ⟨a, b, m1, m2, L1, L2, z, rfl, ha, hb, p1, p2, b1, b2, hg, R1, R2, hl, q⟩ := h
    refine ⟨_, (pss_cons (ps_set (i := 4) scJoined.nd rfl (Or.inr rfl) (pe_ix (ixT K) (pe_call (sp := spBezout K) (okBezout T) hr (by rfl) T.G_bezout T.F_bezout.kp T.B_bezout .nil pass0 (pa_cons (pv 1) (pa_cons (pv 3) pa_nil))) pe_int (fun _ _ => rfl)))
      (pss_one (ps_ret (pe_lc2 (own := [("root", 5), ("other", 6)]) (vs1 := [6]) (g := gName 5) (g1 := gName 6) (tt := tYes) (tt1 := tYes) rfl scJoined.nd (piL K (pv 0)) (blkOk_by (own := [("root", 5), ("other", 6)]) (N := ["roots", "modulus", "others", "part", "inverse", "root", "other"]) (sc := defScope sJoined) (by decide +kernel)) (by decide) (fun _ _ _ _ _ => (pg_name (i := 5) scJoined.nd rfl (Or.inl rfl))) (fun _ _ _ _ _ => pts_nil) (fun _ _ _ _ _ => (piL K (pv 2))) (fun _ _ _ _ _ => (pg_name (i := 6) scJoined.nd rfl (Or.inl rfl))) (fun _ _ _ _ _ => pts_nil) (fun _ _ _ _ _ => (pe_op op_add (pv 5) (pe_op op_mul (pv 1) (pe_op op_mod (pe_op op_mul (pe_op op_sub (pv 6) (pv 5)) (pv 4)) (pv 3))))))))), ?_⟩
    have b1' : m1 < 1152921504606846976 := b1
    have b2' : m2 < 1152921504606846976 := b2
    refine ⟨_, rfl, _, rfl, (m1 : Int), (m2 : Int), rfl, pow_up (a := 60) (by rw [Int.natAbs_natCast]; exact b1) (by decide), pow_up (a := 60) (by rw [Int.natAbs_natCast]; exact b2) (by decide), fun t u v nt huv bu bv => ?_⟩
    rw [hg] at huv
    refine ⟨_, _, _, _, rfl, rfl, SqT.of upd_same, atI_nat (j := 1) rfl, ?_⟩
    have st := same_upd (o := .tup [.int (gI (m1 : Int) (m2 : Int)), .int u, .int v]) nt
    have ha1 := st _ _ ha
    have hb1 := st _ _ hb
    generalize upd H t (.tup [.int (gI (m1 : Int) (m2 : Int)), .int u, .int v]) = H1 at st ha1 hb1 ⊢
    refine ⟨_, rfl, a, rfl, ⟨_, SqL.of ha1⟩, fun D nD => ?_⟩
    have R := rts_join p1 p2 huv R1 R2
    have J : ∀ r o : Int, r + (m1 : Int) * ((o - r) * u % (m2 : Int)) = r + (m1 : Int) * ((o - r) * u % (m2 : Int)) := fun _ _ => rfl
    generalize hF : (fun r o => r + (m1 : Int) * ((o - r) * u % (m2 : Int)) : Int → Int → Int) = F at R
    have hF2 : ∀ r o, r + (m1 : Int) * ((o - r) * u % (m2 : Int)) = F r o := fun r o => by rw [← hF]
    have R' : Rts z (m1 * m2) (L1.flatMap fun r => L2.map (F r)) := by
      have e : (L1.flatMap fun r => L2.map fun o => r + (m1 : Int) * ((o - r) * u % (m2 : Int))) = L1.flatMap fun r => L2.map (F r) := by
        rw [← hF]
      rw [← e]
      exact rts_join p1 p2 huv R1 R2
    refine out_list (K := K) (a := a) (xs := L1.map V.int) (fun m H3 => Same H1 H3 ∧ H3 D = some (.lst (((L1.take m).flatMap fun y => L2.map (F y)).map V.int))) ⟨same_upd nD, upd_same⟩ (fun m H3 hm ⟨a1, a2⟩ => SqL.of (a1 _ _ ha1)) (fun m x H3 hx ⟨a1, a2⟩ => ?_) (fun H3 ⟨a1, a2⟩ => ?_)
    · rw [List.getElem?_map] at hx
      cases hn2 : L1[m]? with
      | none =>
        rw [hn2] at hx
        cases hx
      | some y =>
        rw [hn2] at hx
        cases hx
        have tk : L1.take (m + 1) = L1.take m ++ [y] := by
          rw [List.take_add_one, hn2]
          rfl
        have y1 := (R1.2 y).mp (List.mem_of_getElem? hn2)
        refine ⟨rfl, ?_⟩
        dsimp only [tYes]
        rw [if_pos rfl]
        refine ⟨_, rfl, b, rfl, ⟨_, SqL.of (a1 _ _ hb1)⟩, ?_⟩
        refine out_list (K := K) (a := b) (xs := L2.map V.int) (fun t H4 => Same H1 H4 ∧ H4 D = some (.lst ((((L1.take m).flatMap fun y => L2.map (F y)) ++ (L2.take t).map (F y)).map V.int))) ⟨a1, ?_⟩ (fun t H4 ht ⟨c1, c2⟩ => SqL.of (c1 _ _ hb1)) (fun t x H4 hx ⟨c1, c2⟩ => ?_) (fun H4 ⟨c1, c2⟩ => ⟨c1, ?_⟩)
        · rw [a2]
          simp
        · rw [List.getElem?_map] at hx
          cases hn3 : L2[t]? with
          | none =>
            rw [hn3] at hx
            cases hx
          | some o =>
            rw [hn3] at hx
            cases hx
            have tk2 : L2.take (t + 1) = L2.take t ++ [o] := by
              rw [List.take_add_one, hn3]
              rfl
            have o1 := (R2.2 o).mp (List.mem_of_getElem? hn3)
            refine ⟨rfl, ?_⟩
            dsimp only [tYes]
            rw [if_pos rfl]
            have em := Int.emod_nonneg ((o - y) * u) (show (m2 : Int) ≠ 0 by omega)
            refine ⟨_, rfl, _, rfl, _, rfl, _, rfl, _, _, rfl, rfl, _, rfl, _, _, rfl, rfl, .inl ⟨by omega, by omega⟩, _, rfl, _, _, rfl, rfl, by show (0 : Int) < (m2 : Int); omega, _, _, rfl, rfl, .inl ⟨by omega, by omega⟩, _, _, rfl, rfl, _, c2, ?_, fun b o e => ?_, ?_⟩
            · rw [List.length_map, List.length_append, len2, List.length_map, List.length_take, List.length_take]
              have l0 : m < L1.length := (List.getElem?_eq_some_iff.mp hn2).1
              have t0 : t < L2.length := (List.getElem?_eq_some_iff.mp hn3).1
              have l1 : (m + 1) * L2.length ≤ L1.length * L2.length := Nat.mul_le_mul_right _ l0
              rw [Nat.min_eq_left (by omega), Nat.min_eq_left (by omega)]
              rw [Nat.succ_mul] at l1
              exact Nat.lt_of_lt_of_le (show m * L2.length + t < 16000001 by omega) (by decide)
            · rw [upd_ne (ne_of_none e nD)]
              exact c1 _ _ e
            · have e5 : ((L1.take m).flatMap fun y => L2.map (F y)) ++ (L2.take (t + 1)).map (F y) = (((L1.take m).flatMap fun y => L2.map (F y)) ++ (L2.take t).map (F y)) ++ [F y o] := by
                rw [tk2, List.map_append, List.append_assoc]
                rfl
              rw [upd_same, e5]
              dsimp only
              rw [hF2 y o]
              exact congrArg (fun z => some (HO.lst z)) (List.map_append (f := V.int) (l₂ := [F y o])).symm
        · rw [List.length_map, List.take_length] at c2
          rw [c2, tk, List.flatMap_append, List.flatMap_cons, List.flatMap_nil, List.append_nil]
    · rw [List.length_map, List.take_length] at a2
      have nD0 : H D = none := Same.free st nD
      exact q _ D _ (st.trans a1) nD0 a2 R' len2
def spLiftedRoot (_ : PySem.W.Frag) : Sp := fun vs H Q _ => ∃ (r : Int) (z : Int) (p k : Nat), vs = [.int r, .int z, .int (p : Int), .int ((k + 1 : Nat) : Int)] ∧ Pr p ∧ 0 ≤ r ∧ r < (p : Int) ∧ ¬ (p : Int) ∣ 2 * r ∧ (p : Int) ∣ r * r - z ∧ p ^ (k + 1) < 2 ^ 60 ∧ k < 60 ∧ z.natAbs < 2 ^ 200 ∧
  ∀ H' r', Same H H' → 0 ≤ r' → r' < ((p ^ (k + 1) : Nat) : Int) → ((p ^ (k + 1) : Nat) : Int) ∣ r' * r' - z → (p : Int) ∣ r' - r → Q (.int r') H'
theorem Pr.gcd_one {p : Nat} (h : Pr p) {a : Int} (ha : ¬ (p : Int) ∣ a) : gI a (p : Int) = 1 := by
  unfold gI
  rw [Int.natAbs_natCast]
  have h1 : Nat.gcd a.natAbs p ∣ p := Nat.gcd_dvd_right _ _
  have h2 : Nat.gcd a.natAbs p ∣ a.natAbs := Nat.gcd_dvd_left _ _
  generalize Nat.gcd a.natAbs p = g at h1 h2
  obtain ⟨t, ht⟩ := h1
  have p2 := h.1
  rcases h.2 (g : Int) (t : Int) ⟨1, by rw [← Int.natCast_mul, ← ht, Int.mul_one]⟩ with z | z
  · exact absurd (Int.dvd_trans z (Int.ofNat_dvd_left.mpr h2)) ha
  · obtain ⟨c, hc⟩ := Int.natCast_dvd_natCast.mp z
    rw [hc] at ht
    have e : p * 1 = p * (g * c) := by
      rw [Nat.mul_one]
      calc p = g * (p * c) := ht
        _ = p * (g * c) := by ac_rfl
    have e2 := Nat.eq_of_mul_eq_mul_left (by omega) e
    have e3 : g = 1 := Nat.eq_one_of_mul_eq_one_right e2.symm
    rw [e3]
    rfl
theorem okLiftedRoot (T : Txt K mg fa fd) : FnOk P w K mg base CX0 2 (fa 46) (fd 46) ["root", "unit", "p", "many"] (spLiftedRoot K) := by
  refine T.F__lifted_root.ok scLiftedRoot (fun vs H Q E h => ?_) (fun cdv A outer s H vs Q E hr h => ?_)
  · obtain ⟨r, z, p, k, rfl, hp, r0, r1, h2, hrz, hP, hk, hz, q⟩ := h
    rfl
  · obtain ⟨r, z, p, k, rfl, hp, r0, r1, h2, hrz, hP, hk, hz, q⟩ := h
    refine ⟨_, (pss_cons (ps_set (i := 4) scLiftedRoot.nd rfl (Or.inl rfl) (pe_ix (ixT K) (pe_call (sp := spBezout K) (okBezout T) hr (by rfl) T.G_bezout T.F_bezout.kp T.B_bezout .nil pass0 (pa_cons (pe_op op_mul pe_int (pv 0)) (pa_cons (pv 2) pa_nil))) pe_int (fun _ _ => rfl)))
      (pss_cons (ps_set (i := 5) scLiftedRoot.nd rfl (Or.inl rfl) (pv 2))
      (pss_cons (ps_for PassesOwn.never rfl (pi_range1 (by rfl) T.m_range (pa_cons (pe_op op_subN (pv 3) pe_int) pa_nil)) (pg_name (i := 6) scLiftedRoot.nd rfl (Or.inl rfl))
      (pss_cons (ps_set (i := 5) scLiftedRoot.nd rfl (Or.inl rfl) (pe_op mulNN (pv 5) (pv 2)))
        (pss_one (ps_set (i := 0) scLiftedRoot.nd rfl (Or.inl rfl) (pe_op op_mod (pe_op op_sub (pv 0) (pe_op op_mulW (pe_op op_sub (pe_op op_mul (pv 0) (pv 0)) (pv 1)) (pv 4))) (pv 5))))))
      (pss_one (ps_ret (pv 0)))))), ?_⟩
    have p2 := hp.1
    have hP' : p ^ (k + 1) < 1152921504606846976 := hP
    have pP : p ≤ p ^ (k + 1) := Nat.le_self_pow (by omega) p
    have b1 : (2 * r).natAbs < 2 ^ 9400 := pow_up (a := 62) (by show _ < 4611686018427387904; omega) (by decide)
    have b2 : ((p : Nat) : Int).natAbs < 2 ^ 8990 := pow_up (a := 62) (by rw [Int.natAbs_natCast]; show _ < 4611686018427387904; omega) (by decide)
    refine ⟨_, rfl, _, _, rfl, rfl, .inl ⟨by decide, by decide⟩, _, rfl, 2 * r, (p : Int), rfl, b1, b2, fun t inv v nt hb bi bv => ?_⟩
    rw [hp.gcd_one h2] at hb
    refine ⟨_, _, _, _, rfl, rfl, SqT.of upd_same, atI_nat (j := 1) rfl, _, rfl, ?_⟩
    have st := same_upd (o := .tup [.int (gI (2 * r) (p : Int)), .int inv, .int v]) nt
    generalize upd H t (.tup [.int (gI (2 * r) (p : Int)), .int inv, .int v]) = H1 at st ⊢
    refine ⟨_, rfl, k + 1, 1, rfl, rfl, by omega, _, rfl, by omega, by omega, ?_⟩
    have ek : (((k + 1 - 1 : Nat) : Int)).toNat = k := by omega
    rw [ek]
    refine for_range (lo := 0) (n := k) (fun i σ H' => ∃ (x : Int) (x6 : Option V), σ = [some (.int x), some (.int z), some (.int (p : Int)), some (.int ((k + 1 : Nat) : Int)), some (.int inv), some (.int ((p ^ (i + 1) : Nat) : Int)), x6] ∧ H' = H1 ∧ 0 ≤ x ∧ x < ((p ^ (i + 1) : Nat) : Int) ∧ ((p ^ (i + 1) : Nat) : Int) ∣ x * x - z ∧ (p : Int) ∣ x - r)
      ⟨r, none, ?_, rfl, r0, by rw [Nat.zero_add, Nat.pow_one]; exact r1, by rw [Nat.zero_add, Nat.pow_one]; exact hrz, ⟨0, by omega⟩⟩ (fun i σ H' hi ⟨x, x6, e1, e2, c1, c2, c3, c4⟩ => ?_) (fun σ H' ⟨x, x6, e1, e2, c1, c2, c3, c4⟩ => ?_)
    · rw [Nat.zero_add, Nat.pow_one]
      rfl
    · subst e1 e2
      have le : p ^ (i + 1) ≤ p ^ (k + 1) := Nat.pow_le_pow_right (by omega) (by omega)
      have le2 : p ^ (i + 2) ≤ p ^ (k + 1) := Nat.pow_le_pow_right (by omega) (by omega)
      have ip : 0 < p ^ (i + 1) := Nat.pow_pos (by omega)
      have ip2 : 0 < p ^ (i + 2) := Nat.pow_pos (by omega)
      have eM : p ^ (i + 1) * p = p ^ (i + 2) := (Nat.pow_succ p (i + 1)).symm
      refine ⟨_, rfl, _, rfl, p ^ (i + 1), p, rfl, rfl, .inl (by show _ < 18446744073709551616; omega), ?_⟩
      rw [eM]
      have xb : x.natAbs < 2 ^ 60 := by show _ < 1152921504606846976; omega
      have bb : (x * x - z).natAbs < 2 ^ 210 := by
        have w := wide_lt xb xb
        have e1 : (2 : Nat) ^ (60 + 60) + 2 ^ 200 ≤ 2 ^ 210 := by decide
        omega
      refine ⟨_, rfl, _, rfl, _, rfl, _, _, rfl, rfl, .inl ⟨by omega, by omega⟩, _, rfl, _, _, rfl, rfl, _, rfl, _, _, rfl, rfl, wide_mul bb bi (by decide) (by decide) (by decide), _, _, rfl, rfl, _, rfl, _, _, rfl, rfl, by show (0 : Int) < ((p ^ (i + 2) : Nat) : Int); omega, ?_⟩
      obtain ⟨c, hc⟩ := c3
      obtain ⟨w, hw⟩ := c4
      have h2' : inv * (2 * x) - 1 = (p : Int) * (inv * 2 * w - v) := by
        have e1 : x = r + (p : Int) * w := by omega
        rw [e1]
        clear hc e1
        grind
      have h3 : ((p ^ (i + 1) : Nat) : Int) = (p : Int) * ((p ^ i : Nat) : Int) := by rw [Nat.pow_succ, Int.natCast_mul, Int.mul_comm]
      obtain ⟨m, hm⟩ := lift_step hc h2' h3
      have eM2 : ((p ^ (i + 2) : Nat) : Int) = ((p ^ (i + 1) : Nat) : Int) * (p : Int) := by rw [← eM, Int.natCast_mul]
      refine ⟨_, some (.int ((0 : Int) + (i : Int))), rfl, rfl, Int.emod_nonneg _ (by omega), Int.emod_lt_of_pos _ (by omega), mod_sq ⟨m, by rw [hm, eM2]⟩, ?_⟩
      have dm := Int.mul_ediv_add_emod (x - (x * x - z) * inv) ((p ^ (i + 2) : Nat) : Int)
      generalize (x - (x * x - z) * inv) % ((p ^ (i + 2) : Nat) : Int) = y at dm ⊢
      generalize (x - (x * x - z) * inv) / ((p ^ (i + 2) : Nat) : Int) = qq at dm
      rw [hc, eM2, h3] at dm
      refine ⟨w - ((p ^ i : Nat) : Int) * c * inv - ((p ^ i : Nat) : Int) * (p : Int) * qq, ?_⟩
      generalize ((p ^ i : Nat) : Int) = A at dm ⊢
      clear hc hm h2' h3 eM2
      grind
    · subst e1 e2
      exact ⟨_, rfl, q H' x st c1 c2 c3 c4⟩
def spUnitRootsOfTwo (_ : PySem.W.Frag) : Sp := fun vs H Q _ => ∃ (u : Int) (k : Nat), vs = [.int u, .int (k : Int)] ∧ u % 2 = 1 ∧ 1 ≤ k ∧ k ≤ 50 ∧
  ∀ H' r ns, Same H H' → H r = none → H' r = some (.lst (ns.map V.int)) → Rts u (2 ^ k) ns → ns.length ≤ 4 → Q (.ref r) H'
theorem okUnitRootsOfTwo (T : Txt K mg fa fd) : FnOk P w K mg base CX0 1 (fa 42) (fd 42) ["unit", "many"] (spUnitRootsOfTwo K) := by
  refine T.F__unit_roots_of_two.ok scUnitRootsOfTwo (fun vs H Q E h => ?_) (fun cdv A outer s H vs Q E hr h => ?_)
  · obtain ⟨u, k, rfl, hu, k1, k50, q⟩ := h
    rfl
  · obtain ⟨u, k, rfl, hu, k1, k50, q⟩ := h
    refine ⟨_, (pss_cons (ps_if (pt_cmp (pc_eqI (pv 1) pe_int))
      (pss_one (ps_ret (pe_lst (pa_cons pe_int pa_nil))))
      pss_nil)
      (pss_cons (ps_if (pt_cmp (pc_eqI (pv 1) pe_int))
      (pss_one (ps_ret (pe_ifExp (pt_cmp (pc_eqI (pe_op op_mod (pv 0) pe_int) pe_int)) (pe_lst (pa_cons pe_int (pa_cons pe_int pa_nil))) (pe_lst pa_nil))))
      pss_nil)
      (pss_cons (ps_if (pt_cmp (pc_neI (pe_op op_mod (pv 0) pe_int) pe_int))
      (pss_one (ps_ret (pe_lst pa_nil)))
      pss_nil)
      (pss_cons (ps_set (i := 2) scUnitRootsOfTwo.nd rfl (Or.inl rfl) pe_int)
      (pss_cons (ps_set (i := 3) scUnitRootsOfTwo.nd rfl (Or.inl rfl) pe_int)
      (pss_cons (ps_for PassesOwn.never rfl (pi_range1 (by rfl) T.m_range (pa_cons (pe_op op_sub (pv 1) pe_int) pa_nil)) (pg_name (i := 4) scUnitRootsOfTwo.nd rfl (Or.inl rfl))
      (C8.pss_cut (ps_if (pt_cmp (pc_neI (pe_op op_mod (pe_op op_sub (pe_op op_mul (pv 2) (pv 2)) (pv 0)) (pe_op op_mul pe_int (pv 3))) pe_int))
        (pss_one (ps_set (i := 2) scUnitRootsOfTwo.nd rfl (Or.inl rfl) (pe_op op_add (pv 2) (pe_op op_fdiv (pv 3) pe_int))))
        pss_nil)
        (pss_one (ps_set (i := 3) scUnitRootsOfTwo.nd rfl (Or.inl rfl) (pe_op op_mul pe_int (pv 3))))))
      (pss_cons (ps_set (i := 5) scUnitRootsOfTwo.nd rfl (Or.inl rfl) (pe_op op_fdiv (pv 3) pe_int))
      (pss_one (ps_ret (pe_lst (pa_cons (pv 2) (pa_cons (pe_op op_sub (pv 5) (pv 2)) (pa_cons (pe_op op_add (pv 5) (pv 2)) (pa_cons (pe_op op_sub (pv 3) (pv 2)) pa_nil)))))))))))))), ?_⟩
    refine ⟨_, rfl, _, _, rfl, rfl, _, rfl, way2 (fun h => ?_) (fun h => ?_)⟩
    · have e : k = 1 := by omega
      subst e
      refine ⟨by show 1 ≤ sizeLine; decide, fun r nr => q _ r [1] (same_upd nr) nr upd_same ⟨by decide, fun x => ?_⟩ (by decide)⟩
      rw [List.mem_singleton]
      show x = 1 ↔ 0 ≤ x ∧ x < 2 ∧ (2 : Int) ∣ x * x - u
      refine ⟨fun e => ⟨by omega, by omega, by rw [e]; exact ⟨(1 - u) / 2, by omega⟩⟩, fun ⟨a, b, c⟩ => ?_⟩
      have := odd_of_root ⟨1, rfl⟩ hu c
      omega
    · refine ⟨_, rfl, _, _, rfl, rfl, _, rfl, way2 (fun h2 => ?_) (fun h2 => ?_)⟩
      · have e : k = 2 := by omega
        subst e
        refine ⟨_, rfl, _, _, rfl, rfl, by show (0 : Int) < 4; decide, _, _, rfl, rfl, _, rfl, way2 (fun h3 => ?_) (fun h3 => ?_)⟩
        · refine ⟨by show 2 ≤ sizeLine; decide, fun r nr => q _ r [1, 3] (same_upd nr) nr upd_same ⟨by decide, fun x => ?_⟩ (by decide)⟩
          simp only [List.mem_cons, List.not_mem_nil, or_false]
          show x = 1 ∨ x = 3 ↔ 0 ≤ x ∧ x < 4 ∧ (4 : Int) ∣ x * x - u
          refine ⟨fun e => ?_, fun ⟨a, b, c⟩ => ?_⟩
          · rcases e with rfl | rfl
            · exact ⟨by omega, by omega, ⟨(1 - u) / 4, by omega⟩⟩
            · exact ⟨by omega, by omega, ⟨(9 - u) / 4, by omega⟩⟩
          · have := odd_of_root ⟨2, rfl⟩ hu c
            omega
        · refine ⟨Nat.zero_le _, fun r nr => q _ r [] (same_upd nr) nr upd_same ⟨List.nodup_nil, fun x => ⟨(fun hx => nomatch hx), fun ⟨a, b, c⟩ => ?_⟩⟩ (by decide)⟩
          change (4 : Int) ∣ x * x - u at c
          obtain ⟨y, hy⟩ := odd_sq8 (odd_of_root ⟨2, rfl⟩ hu c)
          obtain ⟨w, hw⟩ := c
          omega
      · refine ⟨_, rfl, _, _, rfl, rfl, by show (0 : Int) < 8; decide, _, _, rfl, rfl, _, rfl, wayN2 (fun h3 => ?_) (fun h3 => ?_)⟩
        · refine ⟨Nat.zero_le _, fun r nr => q _ r [] (same_upd nr) nr upd_same ⟨List.nodup_nil, fun x => ⟨(fun hx => nomatch hx), fun ⟨a, b, c⟩ => ?_⟩⟩ (by decide)⟩
          obtain ⟨j, rfl⟩ : ∃ j, k = j + 3 := ⟨k - 3, by omega⟩
          have e8 : ((2 ^ (j + 3) : Nat) : Int) = 8 * ((2 ^ j : Nat) : Int) := by rw [Nat.pow_add, Int.natCast_mul, Int.mul_comm]; rfl
          rw [e8] at c
          obtain ⟨y, hy⟩ := odd_sq8 (odd_of_root (m := 8 * ((2 ^ j : Nat) : Int)) ⟨4 * ((2 ^ j : Nat) : Int), by omega⟩ hu c)
          obtain ⟨w, hw⟩ := c
          rw [Int.mul_assoc] at hw
          omega
        · obtain ⟨j, rfl⟩ : ∃ j, k = j + 3 := ⟨k - 3, by omega⟩
          refine ⟨_, rfl, _, _, rfl, rfl, _, rfl, by omega, by omega, ?_⟩
          have ej : (((j + 3 : Nat) : Int) - 3).toNat = j := by omega
          rw [ej]
          refine for_range (lo := 0) (n := j) (fun i σ H' => ∃ (x : Int) (x4 : Option V), σ = [some (.int u), some (.int ((j + 3 : Nat) : Int)), some (.int x), some (.int (8 * ((2 ^ i : Nat) : Int))), x4, none] ∧ H' = H ∧ 0 < x ∧ x < 4 * ((2 ^ i : Nat) : Int) ∧ 8 * ((2 ^ i : Nat) : Int) ∣ x * x - u)
            ⟨1, none, rfl, rfl, by decide, by decide, ⟨(1 - u) / 8, by show (1 : Int) * 1 - u = 8 * 1 * ((1 - u) / 8); omega⟩⟩ (fun i σ H' hi ⟨x, x4, e1, e2, c1, c2, c3⟩ => ?_) (fun σ H' ⟨x, x4, e1, e2, c1, c2, c3⟩ => ?_)
          · subst e1 e2
            have i0 : 0 < 2 ^ i := Nat.two_pow_pos i
            have i1 : 2 ^ i ≤ 2 ^ 50 := Nat.pow_le_pow_right (by decide) (by omega)
            have i2 : 2 ^ i ≤ 1125899906842624 := i1
            have es : ((2 ^ (i + 1) : Nat) : Int) = 2 * ((2 ^ i : Nat) : Int) := by rw [Nat.pow_succ, Int.natCast_mul, Int.mul_comm]; rfl
            obtain ⟨c, hc⟩ := c3
            have xodd := odd_of_root (m := 8 * ((2 ^ i : Nat) : Int)) ⟨4 * ((2 ^ i : Nat) : Int), by omega⟩ hu ⟨c, hc⟩
            generalize ((2 ^ i : Nat) : Int) = A at *
            have A0 : 0 < A := by omega
            refine ⟨fun σ H2 => ∃ x : Int, σ = [some (.int u), some (.int ((j + 3 : Nat) : Int)), some (.int x), some (.int (8 * A)), some (.int ((0 : Int) + (i : Int))), none] ∧ H2 = H' ∧ 0 < x ∧ x < 8 * A ∧ 16 * A ∣ x * x - u, ?_, ?_⟩
            · refine ⟨_, rfl, _, rfl, _, _, rfl, rfl, .inl ⟨by omega, by omega⟩, _, rfl, _, _, rfl, rfl, _, rfl, _, _, rfl, rfl, .inl ⟨by decide, by decide⟩, _, _, rfl, rfl, by show (0 : Int) < 2 * (8 * A); omega, _, _, rfl, rfl, _, rfl, wayN2 (fun h5 => ?_) (fun h5 => ?_)⟩
              · refine ⟨_, rfl, _, rfl, _, _, rfl, rfl, ⟨by decide, by decide⟩, _, _, rfl, rfl, x + 8 * A / 2, rfl, rfl, by omega, by omega, ?_⟩
                have e4 : 8 * A / 2 = 4 * A := by omega
                rw [e4]
                have codd : c % 2 = 1 := by
                  by_cases z : c % 2 = 1
                  · exact z
                  · obtain ⟨b, hb⟩ : ∃ b, c = 2 * b := ⟨c / 2, by omega⟩
                    refine absurd ?_ h5
                    rw [hc, hb, show 8 * A * (2 * b) = 2 * (8 * A) * b by grind]
                    exact Int.mul_emod_right _ _
                obtain ⟨b, hb⟩ : ∃ b, c = 2 * b + 1 := ⟨c / 2, by omega⟩
                obtain ⟨y, hy⟩ : ∃ y, x = 2 * y + 1 := ⟨x / 2, by omega⟩
                refine ⟨b + 1 + y + A, ?_⟩
                subst hb
                clear h5
                grind
              · have e6 := Int.dvd_of_emod_eq_zero h5
                obtain ⟨m, hm⟩ := e6
                exact ⟨x, rfl, rfl, c1, by omega, ⟨m, by rw [hm]; grind⟩⟩
            · rintro σ H2 ⟨x, rfl, rfl, d1, d2, d3⟩
              refine ⟨_, rfl, _, _, rfl, rfl, .inl ⟨by decide, by decide⟩, x, some (.int ((0 : Int) + (i : Int))), ?_, rfl, d1, ?_, ?_⟩
              · rw [es, show 8 * (2 * A) = 2 * (8 * A) by omega]
                rfl
              · rw [es]
                omega
              · rw [es, show 8 * (2 * A) = 16 * A by omega]
                exact d3
          · subst e1 e2
            have j0 : 0 < 2 ^ j := Nat.two_pow_pos j
            have e8 : ((2 ^ (j + 3) : Nat) : Int) = 8 * ((2 ^ j : Nat) : Int) := by rw [Nat.pow_add, Int.natCast_mul, Int.mul_comm]; rfl
            have e4 : ((2 ^ (j + 2) : Nat) : Int) = 4 * ((2 ^ j : Nat) : Int) := by rw [Nat.pow_add, Int.natCast_mul, Int.mul_comm]; rfl
            have pw : ∀ a b : Int, a % 2 = 1 → 4 * ((2 ^ j : Nat) : Int) ∣ a * b → 4 * ((2 ^ j : Nat) : Int) ∣ b := fun a b ha hd => by
              rw [← e4] at hd ⊢
              exact two_pw ha hd
            have hh : 8 * ((2 ^ j : Nat) : Int) / 2 = 4 * ((2 ^ j : Nat) : Int) := by omega
            refine ⟨_, rfl, _, _, rfl, rfl, ⟨by decide, by decide⟩, ?_⟩
            dsimp only
            rw [hh]
            have R := two_rts (F := 4 * ((2 ^ j : Nat) : Int)) hu ⟨2 * ((2 ^ j : Nat) : Int), by omega, by omega, by omega⟩ c1 c2 (by rw [show 2 * (4 * ((2 ^ j : Nat) : Int)) = 8 * ((2 ^ j : Nat) : Int) by omega]; exact c3) pw
            rw [show 2 * (4 * ((2 ^ j : Nat) : Int)) = 8 * ((2 ^ j : Nat) : Int) by omega] at R
            refine ⟨_, rfl, _, rfl, _, rfl, _, _, rfl, rfl, _, rfl, _, rfl, _, _, rfl, rfl, _, rfl, _, rfl, _, _, rfl, rfl, by show 4 ≤ sizeLine; decide, fun r nr => ?_⟩
            refine q _ r [x, 4 * ((2 ^ j : Nat) : Int) - x, 4 * ((2 ^ j : Nat) : Int) + x, 8 * ((2 ^ j : Nat) : Int) - x] (same_upd nr) nr upd_same ?_ (Nat.le_refl 4)
            unfold Rts
            rw [e8]
            exact R
def spIsResidue (_ : PySem.W.Frag) : Sp := fun vs H Q _ => ∃ (z : Int) (b p : Nat), vs = [.int z, .int (p : Int)] ∧ 1 < p ∧ p < 2 ^ 60 ∧ z % (p : Int) = ((b % p : Nat) : Int) ∧ Q (.bl (resM b p)) H
theorem dec_beq {a b : Nat} : decide ((a : Int) = (b : Int)) = a.beq b := by
  by_cases z : a = b
  · rw [decide_eq_true (by omega), beqT z]
  · rw [decide_eq_false (by omega), beqF z]
theorem okIsResidue (T : Txt K mg fa fd) : FnOk P w K mg base CX0 2 (fa 38) (fd 38) ["d", "p"] (spIsResidue K) := by
  refine T.F_is_residue.ok scIsResidue (fun vs H Q E h => ?_) (fun cdv A outer s H vs Q E hr h => ?_)
  · obtain ⟨z, b, p, rfl, p0, p1, hz, q⟩ := h
    rfl
  · obtain ⟨z, b, p, rfl, p0, p1, hz, q⟩ := h
    refine ⟨_, (pss_one (ps_ret (pe_cmp (pc_eqI (pe_call (sp := spPowerModulo K) (okPowerModulo T) hr (by rfl) T.G_power_modulo T.F_power_modulo.kp T.B_power_modulo .nil pass0 (pa_cons (pv 0) (pa_cons (pe_op divNN (pe_op op_subN (pv 1) pe_int) pe_int) (pa_cons (pv 1) pa_nil)))) pe_int)))), ?_⟩
    have p1' : p < 1152921504606846976 := p1
    refine ⟨_, rfl, _, rfl, p, 1, rfl, rfl, by omega, p - 1, 2, rfl, rfl, div9 (by decide) (by decide), _, rfl, z, b, (p - 1) / 2, p, rfl, by omega, Nat.lt_trans p1 (by decide), by show _ < 18446744073709551616; omega, hz, _, _, rfl, rfl, ?_⟩
    have e : decide (((pmod b ((p - 1) / 2) p : Nat) : Int) = 1) = resM b p := dec_beq (b := 1)
    dsimp only
    rw [e]
    exact q
def spLeastNonResidue (_ : PySem.W.Frag) : Sp := fun vs H Q _ => ∃ p z : Nat, vs = [.int (p : Int)] ∧ 1 < p ∧ p < 2 ^ 60 ∧ lnrL p 100 2 = some z ∧ Q (.int (z : Int)) H
theorem okLeastNonResidue (T : Txt K mg fa fd) : FnOk P w K mg base CX0 3 (fa 44) (fd 44) ["p"] (spLeastNonResidue K) := by
  refine T.F__least_non_residue.ok scLeastNonResidue (fun vs H Q E h => ?_) (fun cdv A outer s H vs Q E hr h => ?_)
  · obtain ⟨p, z, rfl, p0, p1, hz, q⟩ := h
    rfl
  · obtain ⟨p, z, rfl, p0, p1, hz, q⟩ := h
    refine ⟨_, (pss_cons (ps_set (i := 1) scLeastNonResidue.nd rfl (Or.inl rfl) pe_int)
      (pss_cons (ps_while PassesOwn.never (pt_val (pe_call (sp := spIsResidue K) (okIsResidue T) hr (by rfl) T.G_is_residue T.F_is_residue.kp T.B_is_residue .nil pass0 (pa_cons (pv 1) (pa_cons (pv 0) pa_nil))))
      (pss_one (ps_aug (i := 1) scLeastNonResidue.nd rfl (Or.inl rfl) pe_int (PIp_of iop_addN))))
      (pss_one (ps_ret (pv 1))))), ?_⟩
    refine ⟨fun t σ H' => ∃ (f x : Nat), σ = [some (.int (p : Int)), some (.int (x : Int))] ∧ t = f ∧ H' = H ∧ lnrL p f x = some z, ⟨_, 100, 2, rfl, rfl, rfl, hz⟩, ?_⟩
    rintro t σ H' ⟨f, x, rfl, rfl, rfl, hr⟩
    obtain ⟨g, rfl⟩ : ∃ g, t = g + 1 := by
      cases t with
      | zero => cases hr
      | succ g => exact ⟨g, rfl⟩
    unfold lnrL at hr
    refine ⟨_, rfl, _, rfl, (x : Int), x, p, rfl, p0, p1, (Int.natCast_emod x p).symm, _, rfl, ?_⟩
    cases e : resM x p with
    | true =>
      rw [e] at hr
      refine iteT ⟨fun σ' H2 => σ' = [some (.int (p : Int)), some (.int ((x + 1 : Nat) : Int))] ∧ H2 = H', ?_, ?_⟩
      · rintro σ' H2 ⟨e1, e2⟩
        exact ⟨g, by omega, g, x + 1, e1, rfl, e2, hr⟩
      · exact ⟨_, rfl, x, 1, rfl, rfl, rfl, rfl⟩
    | false =>
      rw [e] at hr
      have e2 : x = z := Option.some.inj hr
      subst e2
      exact iteF ⟨_, rfl, q⟩
def spDoublingsToOne (_ : PySem.W.Frag) : Sp := fun vs H Q _ => ∃ x p k : Nat, vs = [.int (x : Int), .int (p : Int)] ∧ 1 < p ∧ p < 2 ^ 60 ∧ x < p ∧ dblL p 100 x 0 = some k ∧ Q (.int (k : Int)) H
theorem okDoublingsToOne (T : Txt K mg fa fd) : FnOk P w K mg base CX0 1 (fa 45) (fd 45) ["number", "p"] (spDoublingsToOne K) := by
  refine T.F__doublings_to_one.ok scDoublingsToOne (fun vs H Q E h => ?_) (fun cdv A outer s H vs Q E hr h => ?_)
  · obtain ⟨x, p, k, rfl, p0, p1, x1, hk, q⟩ := h
    rfl
  · obtain ⟨x, p, k, rfl, p0, p1, x1, hk, q⟩ := h
    refine ⟨_, (pss_cons (ps_set (i := 2) scDoublingsToOne.nd rfl (Or.inl rfl) pe_int)
      (pss_cons (ps_while PassesOwn.never (pt_cmp (pc_neI (pv 0) pe_int))
      (pss_cons (ps_set (i := 0) scDoublingsToOne.nd rfl (Or.inl rfl) (pe_op modNN (pe_op mulNN (pv 0) (pv 0)) (pv 1)))
        (pss_one (ps_aug (i := 2) scDoublingsToOne.nd rfl (Or.inl rfl) pe_int (PIp_of iop_addN)))))
      (pss_one (ps_ret (pv 2))))), ?_⟩
    refine ⟨fun t σ H' => ∃ (f x i : Nat), σ = [some (.int (x : Int)), some (.int (p : Int)), some (.int (i : Int))] ∧ t = f ∧ H' = H ∧ x < p ∧ dblL p f x i = some k, ⟨_, 100, x, 0, rfl, rfl, rfl, x1, hk⟩, ?_⟩
    rintro t σ H' ⟨f, x, i, rfl, rfl, rfl, x1, hr⟩
    obtain ⟨g, rfl⟩ : ∃ g, t = g + 1 := by
      cases t with
      | zero => cases hr
      | succ g => exact ⟨g, rfl⟩
    unfold dblL at hr
    refine ⟨_, rfl, _, _, rfl, rfl, _, rfl, wayN2 (fun h => ?_) (fun h => ?_)⟩
    · have e : x ≠ 1 := by omega
      rw [bifF (beqF e)] at hr
      refine ⟨fun σ' H2 => σ' = [some (.int ((x * x % p : Nat) : Int)), some (.int (p : Int)), some (.int ((i + 1 : Nat) : Int))] ∧ H2 = H', ?_, ?_⟩
      · rintro σ' H2 ⟨e1, e2⟩
        exact ⟨g, by omega, g, x * x % p, i + 1, e1, rfl, e2, Nat.mod_lt _ (by omega), hr⟩
      · exact ⟨_, rfl, _, rfl, x, x, rfl, rfl, .inl (Nat.lt_trans x1 (Nat.lt_trans p1 (by decide))), _, rfl, x * x, p, rfl, rfl, by omega, _, rfl, i, 1, rfl, rfl, rfl, rfl⟩
    · have e : x = 1 := by omega
      rw [bifT (beqT e)] at hr
      have e2 : i = k := Option.some.inj hr
      subst e2
      exact ⟨_, rfl, q⟩
def spPrimeRoot (_ : PySem.W.Frag) : Sp := fun vs H Q _ => ∃ u p r : Nat, vs = [.int (u : Int), .int (p : Int)] ∧ 2 < p ∧ p < 2 ^ 60 ∧ prM u p = some r ∧ ∀ H', Same H H' → Q (.int (r : Int)) H'
theorem okPrimeRoot (T : Txt K mg fa fd) : FnOk P w K mg base CX0 4 (fa 43) (fd 43) ["unit", "p"] (spPrimeRoot K) := by
  refine T.F__prime_root.ok scPrimeRoot (fun vs H Q E h => ?_) (fun cdv A outer s H vs Q E hr h => ?_)
  · obtain ⟨u, p, r, rfl, p0, p1, hm, q⟩ := h
    rfl
  · obtain ⟨u, p, r, rfl, p0, p1, hm, q⟩ := h
    refine ⟨_, (pss_cons (ps_asg (pe_call (sp := spTakenOut K) (okTakenOut T) (hr.mono (by decide)) (by rfl) T.G_taken_out T.F_taken_out.kp T.B_taken_out .nil pass0 (pa_cons (pe_op op_subN (pv 1) pe_int) (pa_cons pe_int pa_nil))) (pgT K 2 (by rfl) (pgs_cons (pg_name (i := 2) scPrimeRoot.nd rfl (Or.inl rfl)) (pgs_cons (pg_name (i := 3) scPrimeRoot.nd rfl (Or.inl rfl)) pgs_nil))))
      (pss_cons (ps_set (i := 4) scPrimeRoot.nd rfl (Or.inl rfl) (pe_call (sp := spPowerModulo K) (okPowerModulo T) (hr.mono (by decide)) (by rfl) T.G_power_modulo T.F_power_modulo.kp T.B_power_modulo .nil pass0 (pa_cons (pv 0) (pa_cons (pe_op divNN (pe_op op_addN (pv 3) pe_int) pe_int) (pa_cons (pv 1) pa_nil)))))
      (pss_cons (ps_set (i := 5) scPrimeRoot.nd rfl (Or.inl rfl) (pe_call (sp := spPowerModulo K) (okPowerModulo T) (hr.mono (by decide)) (by rfl) T.G_power_modulo T.F_power_modulo.kp T.B_power_modulo .nil pass0 (pa_cons (pv 0) (pa_cons (pv 3) (pa_cons (pv 1) pa_nil)))))
      (pss_cons (ps_set (i := 6) scPrimeRoot.nd rfl (Or.inl rfl) (pe_call (sp := spPowerModulo K) (okPowerModulo T) (hr.mono (by decide)) (by rfl) T.G_power_modulo T.F_power_modulo.kp T.B_power_modulo .nil pass0 (pa_cons (pe_call (sp := spLeastNonResidue K) (okLeastNonResidue T) hr (by rfl) T.G__least_non_residue T.F__least_non_residue.kp T.B__least_non_residue .nil pass0 (pa_cons (pv 1) pa_nil)) (pa_cons (pv 3) (pa_cons (pv 1) pa_nil)))))
      (pss_cons (ps_while PassesOwn.never (pt_cmp (pc_neI (pv 5) pe_int))
      (pss_cons (ps_set (i := 7) scPrimeRoot.nd rfl (Or.inl rfl) (pe_call (sp := spDoublingsToOne K) (okDoublingsToOne T) (hr.mono (by decide)) (by rfl) T.G__doublings_to_one T.F__doublings_to_one.kp T.B__doublings_to_one .nil pass0 (pa_cons (pv 5) (pa_cons (pv 1) pa_nil))))
        (pss_cons (ps_for PassesOwn.never rfl (pi_range1 (by rfl) T.m_range (pa_cons (pe_op op_sub (pe_op op_sub (pv 2) (pv 7)) pe_int) pa_nil)) (pg_name (i := 8) scPrimeRoot.nd rfl (Or.inl rfl))
        (pss_one (ps_set (i := 6) scPrimeRoot.nd rfl (Or.inl rfl) (pe_op modNN (pe_op mulNN (pv 6) (pv 6)) (pv 1)))))
        (pss_cons (ps_set (i := 4) scPrimeRoot.nd rfl (Or.inl rfl) (pe_op modNN (pe_op mulNN (pv 4) (pv 6)) (pv 1)))
        (pss_cons (ps_set (i := 6) scPrimeRoot.nd rfl (Or.inl rfl) (pe_op modNN (pe_op mulNN (pv 6) (pv 6)) (pv 1)))
        (pss_cons (ps_set (i := 5) scPrimeRoot.nd rfl (Or.inl rfl) (pe_op modNN (pe_op mulNN (pv 5) (pv 6)) (pv 1)))
        (pss_one (ps_set (i := 2) scPrimeRoot.nd rfl (Or.inl rfl) (pv 7)))))))))
      (pss_one (ps_ret (pv 4)))))))), ?_⟩
    have p1' : p < 1152921504606846976 := p1
    have p64 : p < 2 ^ 64 := Nat.lt_trans p1 (by decide)
    have z1 : 0 < p - 1 := by omega
    have od := toL_pos (p := 2) (by decide) (f := 64) (k := 0) z1
    change 0 < (takenOut (p - 1) 2).2 ∧ (takenOut (p - 1) 2).2 ≤ p - 1 at od
    unfold prM at hm
    cases hz : lnrL p 100 2 with
    | none =>
      rw [hz] at hm
      cases hm
    | some z =>
      rw [hz] at hm
      have mn := toL_fst (p := 2) (f := 64) (n := p - 1) (k := 0)
      change (takenOut (p - 1) 2).1 ≤ 0 + 64 at mn
      dsimp only at hm
      refine ⟨_, rfl, p, 1, rfl, rfl, by omega, p - 1, 2, rfl, z1, by omega, by decide, by decide, fun t nt => ?_⟩
      have st := same_upd (o := .tup [.int ((takenOut (p - 1) 2).1 : Int), .int ((takenOut (p - 1) 2).2 : Int)]) nt
      refine ⟨t, _, rfl, SqT.of upd_same, rfl, _, _, rfl, _, _, rfl, rfl, ?_⟩
      generalize upd H t (.tup [.int ((takenOut (p - 1) 2).1 : Int), .int ((takenOut (p - 1) 2).2 : Int)]) = H1 at st ⊢
      generalize (takenOut (p - 1) 2).1 = many at hm mn ⊢
      generalize (takenOut (p - 1) 2).2 = odd at hm od ⊢
      have pm : ∀ e, pmod u e p < p := fun e => pmod_lt (by omega)
      refine ⟨_, rfl, _, rfl, odd, 1, rfl, rfl, odd + 1, 2, rfl, rfl, div9 (by decide) (by decide), _, rfl, (u : Int), u, (odd + 1) / 2, p, rfl, by omega, p64, by show _ < 18446744073709551616; omega, (Int.natCast_emod u p).symm, ?_⟩
      refine ⟨_, rfl, _, rfl, _, rfl, (u : Int), u, odd, p, rfl, by omega, p64, by show _ < 18446744073709551616; omega, (Int.natCast_emod u p).symm, ?_⟩
      refine ⟨_, rfl, p, z, rfl, by omega, p1, hz, _, rfl, _, rfl, (z : Int), z, odd, p, rfl, by omega, p64, by show _ < 18446744073709551616; omega, (Int.natCast_emod z p).symm, ?_⟩
      refine ⟨fun t σ H' => ∃ (f root rest turn many : Nat) (x7 x8 : Option V), σ = [some (.int (u : Int)), some (.int (p : Int)), some (.int (many : Int)), some (.int (odd : Int)), some (.int (root : Int)), some (.int (rest : Int)), some (.int (turn : Int)), x7, x8] ∧ t = f ∧ H' = H1 ∧ root < p ∧ rest < p ∧ turn < p ∧ many ≤ 100 ∧ prL p f root rest turn many = some r,
        ⟨_, 100, _, _, _, many, none, none, rfl, rfl, rfl, pm _, pm _, pmod_lt (by omega), by omega, hm⟩, ?_⟩
      rintro t σ H' ⟨f, root, rest, turn, many, x7, x8, rfl, rfl, rfl, b1, b2, b3, b4, hr⟩
      obtain ⟨g, rfl⟩ : ∃ g, t = g + 1 := by
        cases t with
        | zero => cases hr
        | succ g => exact ⟨g, rfl⟩
      unfold prL at hr
      refine ⟨_, rfl, _, _, rfl, rfl, _, rfl, wayN2 (fun h => ?_) (fun h => ?_)⟩
      · have e : rest ≠ 1 := by omega
        rw [bifF (beqF e)] at hr
        cases ho : dblL p 100 rest 0 with
        | none =>
          rw [ho] at hr
          cases hr
        | some order =>
          rw [ho] at hr
          dsimp only at hr
          have o1 : order ≤ 100 := by
            have key : ∀ (f x k j : Nat), dblL p f x k = some j → j ≤ k + f := by
              intro f
              induction f with
              | zero => intro x k j h; cases h
              | succ f ih =>
                intro x k j h
                unfold dblL at h
                cases e : x.beq 1 with
                | true =>
                  rw [e] at h
                  have e2 : k = j := Option.some.inj h
                  omega
                | false =>
                  rw [e] at h
                  have := ih _ _ _ (show dblL p f (x * x % p) (k + 1) = some j from h)
                  omega
            have := key _ _ _ _ ho
            omega
          refine ⟨fun σ' H2 => ∃ (root rest turn many : Nat) (x7 x8 : Option V), σ' = [some (.int (u : Int)), some (.int (p : Int)), some (.int (many : Int)), some (.int (odd : Int)), some (.int (root : Int)), some (.int (rest : Int)), some (.int (turn : Int)), x7, x8] ∧ H2 = H' ∧ root < p ∧ rest < p ∧ turn < p ∧ many ≤ 100 ∧ prL p g root rest turn many = some r, ?_, ?_⟩
          · rintro σ' H2 ⟨root, rest, turn, many, x7, x8, e1, e2, e3⟩
            exact ⟨g, by omega, g, root, rest, turn, many, x7, x8, e1, rfl, e2, e3⟩
          · refine ⟨_, rfl, _, rfl, rest, p, order, rfl, by omega, p1, b2, ho, ?_⟩
            refine ⟨_, rfl, _, rfl, _, _, rfl, rfl, _, _, rfl, rfl, _, rfl, by omega, by omega, ?_⟩
            have em : ((many : Int) - (order : Int) - 1).toNat = many - order - 1 := by omega
            rw [em]
            refine for_range (lo := 0) (n := many - order - 1) (fun i σ H2 => ∃ (x8 : Option V), σ = [some (.int (u : Int)), some (.int (p : Int)), some (.int (many : Int)), some (.int (odd : Int)), some (.int (root : Int)), some (.int (rest : Int)), some (.int ((sqN p i turn : Nat) : Int)), some (.int (order : Int)), x8] ∧ H2 = H') ⟨x8, rfl, rfl⟩ (fun i σ H2 hi ⟨x8, e1, e2⟩ => ?_) (fun σ H2 ⟨x8, e1, e2⟩ => ?_)
            · subst e1 e2
              have c1 := sqN_lt (p := p) (by omega) (k := i) b3
              refine ⟨_, rfl, _, rfl, _, _, rfl, rfl, .inl (Nat.lt_trans c1 p64), _, rfl, _, p, rfl, rfl, by omega, some (.int ((0 : Int) + (i : Int))), ?_, rfl⟩
              rw [sqN_succ]
              rfl
            · subst e1 e2
              have c1 := sqN_lt (p := p) (by omega) (k := many - order - 1) b3
              generalize sqN p (many - order - 1) turn = t2 at hr c1 ⊢
              have c64 := Nat.lt_trans c1 p64
              refine ⟨_, rfl, _, rfl, root, t2, rfl, rfl, .inr c64, _, rfl, _, p, rfl, rfl, by omega, ?_⟩
              refine ⟨_, rfl, _, rfl, t2, t2, rfl, rfl, .inr c64, _, rfl, _, p, rfl, rfl, by omega, ?_⟩
              refine ⟨_, rfl, _, rfl, rest, _, rfl, rfl, .inl (Nat.lt_trans b2 p64), _, rfl, _, p, rfl, rfl, by omega, _, rfl, ?_⟩
              exact ⟨_, _, _, order, _, _, rfl, rfl, Nat.mod_lt _ (by omega), Nat.mod_lt _ (by omega), Nat.mod_lt _ (by omega), o1, hr⟩
      · have e : rest = 1 := by omega
        rw [bifT (beqT e)] at hr
        have e2 : root = r := Option.some.inj hr
        subst e2
        exact ⟨_, rfl, q H' st⟩
def spUnitRoots (_ : PySem.W.Frag) : Sp := fun vs H Q _ => ∃ (u p k : Nat), vs = [.int (u : Int), .int (p : Int), .int ((k + 1 : Nat) : Int)] ∧ (p = 2 ∨ PrimeOk p) ∧ u % p ≠ 0 ∧ u < 2 ^ 60 ∧ k < 49 ∧ p ^ (k + 1) < 2 ^ 60 ∧
  ∀ H' r ns, Same H H' → H r = none → H' r = some (.lst (ns.map V.int)) → Rts (u : Int) (p ^ (k + 1)) ns → ns.length ≤ 4 → Q (.ref r) H'
theorem okUnitRoots (T : Txt K mg fa fd) : FnOk P w K mg base CX0 5 (fa 41) (fd 41) ["unit", "p", "many"] (spUnitRoots K) := by
  refine T.F__unit_roots.ok scUnitRoots (fun vs H Q E h => ?_) (fun cdv A outer s H vs Q E hr h => ?_)
  · obtain ⟨u, p, k, rfl, hp, hu, u1, k1, hP, q⟩ := h
    rfl
  · obtain ⟨u, p, k, rfl, hp, hu, u1, k1, hP, q⟩ := h
    refine ⟨_, (pss_cons (ps_if (pt_cmp (pc_eqI (pv 1) pe_int))
      (pss_one (ps_ret (pe_call (sp := spUnitRootsOfTwo K) (okUnitRootsOfTwo T) (hr.mono (by decide)) (by rfl) T.G__unit_roots_of_two T.F__unit_roots_of_two.kp T.B__unit_roots_of_two .nil pass0 (pa_cons (pv 0) (pa_cons (pv 2) pa_nil)))))
      pss_nil)
      (pss_cons (ps_if (pt_not (pt_val (pe_call (sp := spIsResidue K) (okIsResidue T) (hr.mono (by decide)) (by rfl) T.G_is_residue T.F_is_residue.kp T.B_is_residue .nil pass0 (pa_cons (pv 0) (pa_cons (pv 1) pa_nil)))))
      (pss_one (ps_ret (pe_lst pa_nil)))
      pss_nil)
      (pss_cons (ps_set (i := 3) scUnitRoots.nd rfl (Or.inl rfl) (pe_call (sp := spLiftedRoot K) (okLiftedRoot T) (hr.mono (by decide)) (by rfl) T.G__lifted_root T.F__lifted_root.kp T.B__lifted_root .nil pass0 (pa_cons (pe_call (sp := spPrimeRoot K) (okPrimeRoot T) hr (by rfl) T.G__prime_root T.F__prime_root.kp T.B__prime_root .nil pass0 (pa_cons (pe_op modNN (pv 0) (pv 1)) (pa_cons (pv 1) pa_nil))) (pa_cons (pv 0) (pa_cons (pv 1) (pa_cons (pv 2) pa_nil))))))
      (pss_one (ps_ret (pe_lst (pa_cons (pv 3) (pa_cons (pe_op op_sub (pe_call (sp := spPower K) (okPower T) (hr.mono (by decide)) (by rfl) T.G_power T.F_power.kp T.B_power .nil pass0 (pa_cons (pv 1) (pa_cons (pv 2) pa_nil))) (pv 3)) pa_nil)))))))), ?_⟩
    have u1' : u < 1152921504606846976 := u1
    have hP' : p ^ (k + 1) < 1152921504606846976 := hP
    have p2 : 2 ≤ p := by
      rcases hp with e | e
      · omega
      · exact e.pr.1
    have pP : p ≤ p ^ (k + 1) := Nat.le_self_pow (by omega) p
    have p60 : p < 2 ^ 60 := by show p < 1152921504606846976; omega
    refine ⟨_, rfl, _, _, rfl, rfl, _, rfl, way2 (fun h => ?_) (fun h => ?_)⟩
    · have e : p = 2 := by omega
      subst e
      exact ⟨_, rfl, _, rfl, (u : Int), k + 1, rfl, by omega, by omega, by omega, q⟩
    · have hp : PrimeOk p := by
        rcases hp with e | e
        · omega
        · exact e
      have p3 : 2 < p := by have := hp.odd; omega
      refine ⟨_, rfl, _, rfl, (u : Int), u, p, rfl, by omega, p60, (Int.natCast_emod u p).symm, _, rfl, ?_⟩
      cases hr : resM u p with
      | false =>
        refine iteT ⟨Nat.zero_le _, fun r nr => q _ r [] (same_upd nr) nr upd_same ⟨List.nodup_nil, fun x => ⟨(fun hx => nomatch hx), fun ⟨a, b, c⟩ => (no_root hp hu hr a c).elim⟩⟩ (by decide)⟩
      | true =>
        obtain ⟨r0, hr0, r1, r2⟩ := prM_some hp hu hr
        refine iteF ⟨_, rfl, _, rfl, u, p, rfl, rfl, by omega, _, rfl, u % p, p, r0, rfl, p3, p60, hr0, fun H1 s1 => ?_⟩
        have hrz : (p : Int) ∣ (r0 : Int) * (r0 : Int) - (u : Int) := by
          refine Int.dvd_of_emod_eq_zero (Int.emod_eq_emod_iff_emod_sub_eq_zero.mp ?_)
          rw [← Int.natCast_mul, ← Int.natCast_emod, ← Int.natCast_emod, r2]
        have h2 : ¬ (p : Int) ∣ 2 * (r0 : Int) := by
          intro hd
          rcases hp.pr.2 _ _ hd with ⟨c, hc⟩ | ⟨c, hc⟩
          · have c1 : 1 ≤ c := by
              by_cases z : 1 ≤ c
              · exact z
              · have := Int.mul_le_mul_of_nonneg_left (show c ≤ 0 by omega) (show (0 : Int) ≤ (p : Int) by omega)
                omega
            have := Int.mul_le_mul_of_nonneg_left c1 (show (0 : Int) ≤ (p : Int) by omega)
            omega
          · obtain ⟨w, hw⟩ := hrz
            have e : (u : Int) = (p : Int) * (c * (r0 : Int) - w) := by
              rw [Int.mul_sub, ← hw, ← Int.mul_assoc, ← hc]
              omega
            have e2 : (u : Int) % (p : Int) = 0 := by rw [e]; exact Int.mul_emod_right _ _
            rw [← Int.natCast_emod] at e2
            omega
        refine ⟨_, rfl, _, rfl, _, rfl, (r0 : Int), (u : Int), p, k, rfl, hp.pr, by omega, by omega, h2, hrz, hP, by omega, Nat.lt_trans (show (u : Int).natAbs < 2 ^ 60 by rw [Int.natAbs_natCast]; exact u1) (by decide), fun H2 x s2 x0 x1 hx hxr => ?_⟩
        have hx2 : ¬ (p : Int) ∣ 2 * x := by
          rintro ⟨c, hc⟩
          obtain ⟨w, hw⟩ := hxr
          exact h2 ⟨c - 2 * w, by rw [Int.mul_sub, ← hc, show (p : Int) * (2 * w) = 2 * ((p : Int) * w) by grind, ← hw]; omega⟩
        refine ⟨_, rfl, _, rfl, _, rfl, p, k + 1, rfl, Nat.lt_trans p60 (by decide), by show k + 1 < 1152921504606846976; omega, _, rfl, _, _, rfl, rfl, by show 2 ≤ sizeLine; decide, fun t nt => ?_⟩
        have s3 := s1.trans s2
        have nt0 : H t = none := Same.free s3 nt
        exact q _ t [x, ((p ^ (k + 1) : Nat) : Int) - x] (s3.trans (same_upd nt)) nt0 upd_same (unit_rts hp.pr hx2 hx x0 x1) (Nat.le_of_lt (by show 2 < 4; decide))
def spPowerRoots (_ : PySem.W.Frag) : Sp := fun vs H Q _ => ∃ (z : Int) (p k : Nat), vs = [.int z, .int (p : Int), .int (k : Int)] ∧ (p = 2 ∨ PrimeOk p) ∧ 1 ≤ k ∧ k < 49 ∧ p ^ k ≤ 100000000 ∧
  ∀ H' r ns, Same H H' → H r = none → H' r = some (.lst (ns.map V.int)) → Rts z (p ^ k) ns → ns.length ≤ 4 * p ^ (k / 2) → Q (.ref r) H'
theorem half_le {p k : Nat} (hp : 2 ≤ p) (h : p ^ k ≤ 100000000) : p ^ (k / 2) ≤ 10000 := by
  by_cases z : p ^ (k / 2) ≤ 10000
  · exact z
  · have h1 : 10001 * 10001 ≤ p ^ (k / 2) * p ^ (k / 2) := Nat.mul_le_mul (by omega) (by omega)
    rw [← Nat.pow_add] at h1
    have h2 : p ^ (k / 2 + k / 2) ≤ p ^ k := Nat.pow_le_pow_right (by omega) (by omega)
    omega
theorem okPowerRoots (T : Txt K mg fa fd) : FnOk P w K mg base CX0 6 (fa 40) (fd 40) ["d", "p", "many"] (spPowerRoots K) := by
  refine T.F__power_roots.ok scPowerRoots (fun vs H Q E h => ?_) (fun cdv A outer s H vs Q E hr h => ?_)
  · obtain ⟨z, p, k, rfl, hp, k1, k2, hP, q⟩ := h
    rfl
  · obtain ⟨z, p, k, rfl, hp, k1, k2, hP, q⟩ := h
    refine ⟨_, (pss_cons (ps_set (i := 3) scPowerRoots.nd rfl (Or.inl rfl) (pe_call (sp := spPower K) (okPower T) (hr.mono (by decide)) (by rfl) T.G_power T.F_power.kp T.B_power .nil pass0 (pa_cons (pv 1) (pa_cons (pv 2) pa_nil))))
      (pss_cons (ps_set (i := 4) scPowerRoots.nd rfl (Or.inl rfl) (pe_op op_mod (pv 0) (pv 3)))
      (pss_cons (ps_if (pt_cmp (pc_eqI (pv 4) pe_int))
      (pss_one (ps_ret (pe_listRg3 (by rfl) (by rfl) T.m_list (by rfl) T.m_range pe_int (pv 3) (pe_call (sp := spPower K) (okPower T) (hr.mono (by decide)) (by rfl) T.G_power T.F_power.kp T.B_power .nil pass0 (pa_cons (pv 1) (pa_cons (pe_op op_subN (pv 2) (pe_op divNN (pv 2) pe_int)) pa_nil))))))
      pss_nil)
      (pss_cons (ps_asg (pe_call (sp := spTakenOut K) (okTakenOut T) (hr.mono (by decide)) (by rfl) T.G_taken_out T.F_taken_out.kp T.B_taken_out .nil pass0 (pa_cons (pv 4) (pa_cons (pv 1) pa_nil))) (pgT K 2 (by rfl) (pgs_cons (pg_name (i := 5) scPowerRoots.nd rfl (Or.inl rfl)) (pgs_cons (pg_name (i := 6) scPowerRoots.nd rfl (Or.inl rfl)) pgs_nil))))
      (pss_cons (ps_if (pt_cmp (pc_eqI (pe_op modNN (pv 5) pe_int) pe_int))
      (pss_one (ps_ret (pe_lst pa_nil)))
      pss_nil)
      (pss_cons (ps_set (i := 7) scPowerRoots.nd rfl (Or.inr rfl) (pe_call (sp := spPower K) (okPower T) (hr.mono (by decide)) (by rfl) T.G_power T.F_power.kp T.B_power .nil pass0 (pa_cons (pv 1) (pa_cons (pe_op divNN (pv 5) pe_int) pa_nil))))
      (pss_cons (ps_set (i := 8) scPowerRoots.nd rfl (Or.inr rfl) (pe_call (sp := spPower K) (okPower T) (hr.mono (by decide)) (by rfl) T.G_power T.F_power.kp T.B_power .nil pass0 (pa_cons (pv 1) (pa_cons (pe_op op_subN (pv 2) (pv 5)) pa_nil))))
      (pss_one (ps_ret (pe_lc2 (own := [("root", 9), ("k", 10)]) (vs1 := [10]) (g := gName 9) (g1 := gName 10) (tt := tYes) (tt1 := tYes) rfl scPowerRoots.nd (piL K (pe_call (sp := spUnitRoots K) (okUnitRoots T) hr (by rfl) T.G__unit_roots T.F__unit_roots.kp T.B__unit_roots .nil pass0 (pa_cons (pv 6) (pa_cons (pv 1) (pa_cons (pe_op op_subN (pv 2) (pv 5)) pa_nil))))) (blkOk_by (own := [("root", 9), ("k", 10)]) (N := ["d", "p", "many", "modulus", "rest", "inside", "unit", "half", "step", "root", "k"]) (sc := defScope sPowerRoots) (by decide +kernel)) (by decide) (fun _ _ _ _ _ => (pg_name (i := 9) scPowerRoots.nd rfl (Or.inl rfl))) (fun _ _ _ _ _ => pts_nil) (fun _ _ _ _ _ => (pi_range1 (by rfl) T.m_range (pa_cons (pv 7) pa_nil))) (fun _ _ _ _ _ => (pg_name (i := 10) scPowerRoots.nd rfl (Or.inl rfl))) (fun _ _ _ _ _ => pts_nil) (fun _ _ _ _ _ => (pe_op op_mul (pv 7) (pe_op op_add (pv 9) (pe_op op_mul (pv 8) (pv 10))))))))))))))), ?_⟩
    have pr : Pr p := by
      rcases hp with e | e
      · rw [e]
        exact pr_two
      · exact e.pr
    have p2 := pr.1
    have pP : p ≤ p ^ k := Nat.le_self_pow (by omega) p
    have M0 : 0 < p ^ k := Nat.pow_pos (by omega)
    have hh := half_le p2 hP
    have p64 : p < 2 ^ 64 := by show p < 18446744073709551616; omega
    refine ⟨_, rfl, _, rfl, p, k, rfl, p64, by show k < 1152921504606846976; omega, ?_⟩
    refine ⟨_, rfl, _, rfl, _, _, rfl, rfl, by show (0 : Int) < ((p ^ k : Nat) : Int); omega, ?_⟩
    have r0 := Int.emod_nonneg z (show ((p ^ k : Nat) : Int) ≠ 0 by omega)
    have r1 := Int.emod_lt_of_pos z (show (0 : Int) < ((p ^ k : Nat) : Int) by omega)
    have dz : ((p ^ k : Nat) : Int) ∣ z - z % ((p ^ k : Nat) : Int) := ⟨z / ((p ^ k : Nat) : Int), by have := Int.mul_ediv_add_emod z ((p ^ k : Nat) : Int); omega⟩
    dsimp only
    generalize z % ((p ^ k : Nat) : Int) = n0 at r0 r1 dz ⊢
    obtain ⟨n, rfl⟩ := Int.eq_ofNat_of_zero_le r0
    refine ⟨_, rfl, _, _, rfl, rfl, _, rfl, way2 (fun h => ?_) (fun h => ?_)⟩
    · have e : n = 0 := by omega
      subst e
      refine ⟨_, rfl, _, rfl, _, rfl, _, rfl, k, 2, rfl, rfl, div9 (by decide) (by decide), k, k / 2, rfl, rfl, by omega, p, k - k / 2, rfl, p64, by show _ < 1152921504606846976; omega, ?_⟩
      have hM : p ^ (k - k / 2) * p ^ (k / 2) = p ^ k := by rw [← Nat.pow_add]; congr 1; omega
      have c0 : 0 < p ^ (k - k / 2) := Nat.pow_pos (by omega)
      have c1 : p ^ (k - k / 2) ≤ p ^ k := Nat.pow_le_pow_right (by omega) (by omega)
      refine ⟨0, ((p ^ k : Nat) : Int), ((p ^ (k - k / 2) : Nat) : Int), p ^ (k / 2), rfl, rfl, rfl, ?_, by show _ ≤ 16777216; omega, fun r nr => ?_⟩
      · rw [← hM]
        exact rg_mul c0 (by omega) (by rw [hM]; show _ < 1152921504606846976; omega)
      · have R := rts_zero (p := p) (k := k) pr
        have e2 : ((List.range (p ^ (k / 2))).map fun (t : Nat) => V.int (0 + (t : Int) * ((p ^ (k - k / 2) : Nat) : Int))) = ((List.range (p ^ (k / 2))).map fun (t : Nat) => (0 : Int) + (t : Int) * ((p ^ (k - k / 2) : Nat) : Int)).map V.int := by
          rw [List.map_map]
          rfl
        refine q _ r _ (same_upd nr) nr (by rw [upd_same, e2]) (rts_congr dz R) ?_
        rw [List.length_map, List.length_range]
        omega
    · have n0 : 0 < n := by omega
      have n64 : n < 2 ^ 64 := by show n < 18446744073709551616; omega
      refine ⟨_, rfl, _, rfl, n, p, rfl, n0, n64, p2, p64, fun t nt => ?_⟩
      have st := same_upd (o := .tup [.int ((takenOut n p).1 : Int), .int ((takenOut n p).2 : Int)]) nt
      refine ⟨t, _, rfl, SqT.of upd_same, rfl, _, _, rfl, _, _, rfl, rfl, ?_⟩
      generalize upd H t (.tup [.int ((takenOut n p).1 : Int), .int ((takenOut n p).2 : Int)]) = H1 at st ⊢
      obtain ⟨j, hj, hn, hw⟩ := toL_spec (p := p) p2 (f := 64) (n := n) (k := 0) n0 n64
      change (takenOut n p).1 = 0 + j at hj
      change n = p ^ j * (takenOut n p).2 at hn
      change (takenOut n p).2 % p ≠ 0 at hw
      rw [hj, Nat.zero_add]
      generalize (takenOut n p).2 = w at hn hw ⊢
      have w0 : 0 < w := by
        cases w with
        | zero => rw [Nat.zero_mod] at hw; exact absurd rfl hw
        | succ w => omega
      have jn : p ^ j ≤ n := by rw [hn]; exact Nat.le_mul_of_pos_right _ w0
      have wn : w ≤ n := by rw [hn]; exact Nat.le_mul_of_pos_left _ (Nat.pow_pos (by omega))
      have jk : j < k := by
        by_cases zz : j < k
        · exact zz
        · have := Nat.pow_le_pow_right (show 0 < p by omega) (show k ≤ j by omega)
          omega
      refine ⟨_, rfl, j, 2, rfl, rfl, by decide, _, _, rfl, rfl, _, rfl, way2 (fun h => ?_) (fun h => ?_)⟩
      · refine ⟨Nat.zero_le _, fun r nr => ?_⟩
        have R := rts_odd (k := k) (j := j) pr (by omega) jk hw
        rw [← hn] at R
        exact q _ r [] (st.trans (same_upd nr)) (Same.free st nr) upd_same (rts_congr dz R) (Nat.zero_le _)
      · obtain ⟨i, rfl⟩ : ∃ i, j = 2 * i := ⟨j / 2, by omega⟩
        have ei : 2 * i / 2 = i := by omega
        refine ⟨_, rfl, _, rfl, 2 * i, 2, rfl, rfl, div9 (by decide) (by decide), ?_⟩
        rw [ei]
        refine ⟨p, i, rfl, p64, by show i < 1152921504606846976; omega, ?_⟩
        refine ⟨_, rfl, _, rfl, _, rfl, k, 2 * i, rfl, rfl, by omega, p, k - 2 * i, rfl, p64, by show _ < 1152921504606846976; omega, ?_⟩
        have sk : p ^ (k - 2 * i) ≤ p ^ k := Nat.pow_le_pow_right (by omega) (by omega)
        have ai : p ^ i ≤ p ^ (k / 2) := Nat.pow_le_pow_right (by omega) (by omega)
        obtain ⟨k', hk'⟩ : ∃ k', k - 2 * i = k' + 1 := ⟨k - 2 * i - 1, by omega⟩
        refine ⟨_, rfl, _, rfl, _, rfl, _, rfl, k, 2 * i, rfl, rfl, by omega, w, p, k', congrArg (fun t : Nat => [V.int (w : Int), V.int (p : Int), V.int (t : Int)]) hk', hp, hw, by show w < 1152921504606846976; omega, by omega, by rw [← hk']; show _ < 1152921504606846976; omega, fun H2 r ns s2 nr hr R nl => ?_⟩
        rw [← hk'] at R
        refine ⟨r, rfl, ⟨_, SqL.of hr⟩, fun D nD => ?_⟩
        let F : Int → Nat → Int := fun y t => ((p ^ i : Nat) : Int) * (y + ((p ^ (k - 2 * i) : Nat) : Int) * (t : Int))
        have hF : ∀ y t, F y t = ((p ^ i : Nat) : Int) * (y + ((p ^ (k - 2 * i) : Nat) : Int) * (t : Int)) := fun _ _ => rfl
        refine out_list (K := K) (a := r) (xs := ns.map V.int) (fun m H3 => Same H2 H3 ∧ H3 D = some (.lst (((ns.take m).flatMap fun y => (List.range (p ^ i)).map (F y)).map V.int))) ⟨same_upd nD, upd_same⟩ (fun m H3 hm ⟨a1, a2⟩ => SqL.of (a1 _ _ hr)) (fun m x H3 hx ⟨a1, a2⟩ => ?_) (fun H3 ⟨a1, a2⟩ => ?_)
        · rw [List.getElem?_map] at hx
          cases hn2 : ns[m]? with
          | none =>
            rw [hn2] at hx
            cases hx
          | some y =>
            rw [hn2] at hx
            cases hx
            have tk : ns.take (m + 1) = ns.take m ++ [y] := by
              rw [List.take_add_one, hn2]
              rfl
            refine ⟨rfl, ?_⟩
            dsimp only [tYes]
            rw [if_pos rfl]
            refine ⟨_, rfl, _, rfl, by omega, by omega, ?_⟩
            have ea : ((p ^ i : Nat) : Int).toNat = p ^ i := rfl
            rw [ea]
            refine out_range (lo := 0) (n := p ^ i) (fun t H4 => Same H2 H4 ∧ H4 D = some (.lst ((((ns.take m).flatMap fun y => (List.range (p ^ i)).map (F y)) ++ (List.range t).map (F y)).map V.int))) ⟨a1, ?_⟩ (fun t H4 ht ⟨b1, b2⟩ => ?_) (fun H4 ⟨b1, b2⟩ => ⟨b1, ?_⟩)
            · rw [a2]
              simp
            · refine ⟨rfl, ?_⟩
              dsimp only [tYes]
              rw [if_pos rfl]
              refine ⟨_, rfl, _, rfl, _, rfl, _, rfl, _, _, rfl, rfl, .inl ⟨by omega, by omega⟩, _, _, rfl, rfl, _, _, rfl, rfl, .inl ⟨by omega, by omega⟩, _, b2, ?_, fun b o e => ?_, ?_⟩
              · rw [List.length_map, List.length_append, len2, List.length_map, List.length_range, List.length_range]
                have l1 : (ns.take m).length ≤ 4 := by rw [List.length_take]; omega
                have l2 := Nat.mul_le_mul l1 (show p ^ i ≤ 10000 by omega)
                exact Nat.lt_of_lt_of_le (show _ < 100000 by omega) (by decide)
              · rw [upd_ne (ne_of_none e nD)]
                exact b1 _ _ e
              · have e5 : ((ns.take m).flatMap fun y => (List.range (p ^ i)).map (F y)) ++ (List.range (t + 1)).map (F y) = (((ns.take m).flatMap fun y => (List.range (p ^ i)).map (F y)) ++ (List.range t).map (F y)) ++ [F y t] := by
                  rw [List.range_succ, List.map_append, List.append_assoc]
                  rfl
                have e6 : (0 : Int) + (t : Int) = (t : Int) := Int.zero_add _
                rw [upd_same, e5, e6]
                exact congrArg (fun z => some (HO.lst z)) (List.map_append (f := V.int) (l₂ := [F y t])).symm
            · rw [b2, tk, List.flatMap_append, List.flatMap_cons, List.flatMap_nil, List.append_nil]
        · rw [List.length_map, List.take_length] at a2
          have R2 := rts_even (k := k) (i := i) pr (by omega) R
          rw [← hn] at R2
          have nD0 : H D = none := Same.free (st.trans s2) nD
          refine q _ D _ ((st.trans s2).trans a1) nD0 a2 (rts_congr dz R2) ?_
          rw [len2, List.length_range]
          exact Nat.mul_le_mul nl ai
def spSquareRoots (_ : PySem.W.Frag) : Sp := fun vs H Q _ => ∃ (z : Int) (m : Nat) (l : List (Nat × Nat)), vs = [.int z, .int (m : Int)] ∧ 0 < m ∧ m ≤ 100000000 ∧ FacOk m l ∧
  ∀ H' r ns, Same H H' → H r = none → H' r = some (.lst (ns.map V.int)) → Rts z m ns → ns.Pairwise (· ≤ ·) → Q (.ref r) H'
def rSortedQ (K : PySem.W.Frag) : List V → Hp → VK → Prop := fun vs H Q => ∃ (a : Addr) (ns : List Int), vs = [V.ref a] ∧ SqL K H a (ns.map V.int) ∧ ∀ (ns' : List Int) (p : Addr), ns'.Perm ns → ns'.Pairwise (· ≤ ·) → H p = none → Q (.ref p) (upd H p (.lst (ns'.map V.int)))
theorem sortedQ {X : Cx} (K : PySem.W.Frag) (h : X.K = K := by rfl) : CallR X (.builtin "sorted") (rSortedQ K) := by subst h; exact cr_sortedI
theorem rts_perm {z : Int} {m : Nat} {L L' : List Int} (R : Rts z m L) (h : L'.Perm L) : Rts z m L' := ⟨h.nodup_iff.mpr R.1, fun x => (h.mem_iff).trans (R.2 x)⟩
theorem okSquareRoots (T : Txt K mg fa fd) : FnOk P w K mg base CX0 7 (fa 37) (fd 37) ["d", "m"] (spSquareRoots K) := by
  refine T.F_square_roots.ok scSquareRoots (fun vs H Q E h => ?_) (fun cdv A outer s H vs Q E hr h => ?_)
  · obtain ⟨z, m, l, rfl, m0, m1, hf, q⟩ := h
    rfl
  · obtain ⟨z, m, l, rfl, m0, m1, hf, q⟩ := h
    refine ⟨_, (pss_cons (ps_set (i := 2) scSquareRoots.nd rfl (Or.inl rfl) (pe_lst (pa_cons pe_int pa_nil)))
      (pss_cons (ps_set (i := 3) scSquareRoots.nd rfl (Or.inl rfl) pe_int)
      (pss_cons (ps_for PassesOwn.never rfl (piL K (pe_call (sp := spPrimeParts K) (okPrimeParts T) (hr.mono (by decide)) (by rfl) T.G_prime_parts T.F_prime_parts.kp T.B_prime_parts .nil pass0 (pa_cons (pv 1) pa_nil))) (pgT K 2 (by rfl) (pgs_cons (pg_name (i := 4) scSquareRoots.nd rfl (Or.inl rfl)) (pgs_cons (pg_name (i := 5) scSquareRoots.nd rfl (Or.inl rfl)) pgs_nil)))
      (pss_cons (ps_set (i := 6) scSquareRoots.nd rfl (Or.inl rfl) (pe_call (sp := spPower K) (okPower T) (hr.mono (by decide)) (by rfl) T.G_power T.F_power.kp T.B_power .nil pass0 (pa_cons (pv 4) (pa_cons (pv 5) pa_nil))))
        (pss_cons (ps_set (i := 2) scSquareRoots.nd rfl (Or.inl rfl) (pe_call (sp := spJoined K) (okJoined T) (hr.mono (by decide)) (by rfl) T.G__joined T.F__joined.kp T.B__joined .nil pass0 (pa_cons (pv 2) (pa_cons (pv 3) (pa_cons (pe_call (sp := spPowerRoots K) (okPowerRoots T) hr (by rfl) T.G__power_roots T.F__power_roots.kp T.B__power_roots .nil pass0 (pa_cons (pv 0) (pa_cons (pv 4) (pa_cons (pv 5) pa_nil)))) (pa_cons (pv 6) pa_nil))))))
        (pss_one (ps_set (i := 3) scSquareRoots.nd rfl (Or.inl rfl) (pe_op mulNN (pv 3) (pv 6)))))))
      (pss_one (ps_ret (pe_callB (sortedQ K) (by rfl) T.m_sorted (by decide +kernel) (pa_cons (pv 2) pa_nil))))))), ?_⟩
    refine ⟨by show 1 ≤ sizeLine; decide, fun R0 nR0 => ?_⟩
    have hR0 : (upd H R0 (.lst [.int 0])) R0 = some (.lst (([0] : List Int).map V.int)) := upd_same
    have sR := same_upd (o := .lst [.int 0]) nR0
    refine ⟨_, rfl, m, l, rfl, m0, by show m < 576460752303423488; omega, hf.pp, fun H1 A as s1 nA hA hP hl => ?_⟩
    refine ⟨A, rfl, ⟨_, SqL.of hA⟩, for_list (K := K) (a := A) (xs := as.map V.ref) (fun i σ H' => ∃ (R : Addr) (L : List Int) (x4 x5 x6 : Option V) (M : Nat), σ = [some (.int z), some (.int (m : Int)), some (.ref R), some (.int (M : Int)), x4, x5, x6] ∧ Same H1 H' ∧ H' R = some (.lst (L.map V.int)) ∧ Rts z M L ∧ 0 < M ∧ M * prodP (l.drop i) = m ∧ FacP M (l.drop i) ∧ L.length * lenP (l.drop i) ≤ 16000000)
      ⟨R0, [0], none, none, none, 1, rfl, Same.refl H1, s1 _ _ hR0, ⟨by decide, fun x => ?_⟩, by decide, ?_, hf.fac, ?_⟩ (fun i σ H' hi ⟨R, L, x4, x5, x6, M, e1, e2, _⟩ => SqL.of (e2 _ _ hA)) (fun i x σ H' hx ⟨R, L, x4, x5, x6, M, e1, e2, e3, e4, e5, e6, e7, e8⟩ => ?_) (fun σ H' ⟨R, L, x4, x5, x6, M, e1, e2, e3, e4, e5, e6, e7, e8⟩ => ?_)⟩
    · rw [List.mem_singleton]
      show x = 0 ↔ 0 ≤ x ∧ x < 1 ∧ (1 : Int) ∣ x * x - z
      exact ⟨fun e => ⟨by omega, by omega, ⟨x * x - z, by omega⟩⟩, fun ⟨a, b, _⟩ => by omega⟩
    · rw [List.drop_zero, hf.prod, Nat.one_mul]
    · rw [List.drop_zero]
      show 1 * lenP l ≤ 16000000
      rw [Nat.one_mul]
      exact hf.len
    · subst e1
      rw [List.getElem?_map] at hx
      cases ha : as[i]? with
      | none =>
        rw [ha] at hx
        cases hx
      | some t =>
        rw [ha] at hx
        cases hx
        have il : i < l.length := by
          have h1 := (List.getElem?_eq_some_iff.mp ha).1
          have h2 := hP.len
          unfold nats at h2
          rw [List.length_map] at h2
          omega
        obtain ⟨⟨p, k⟩, hpk⟩ : ∃ pk, l[i]? = some pk := ⟨_, List.getElem?_eq_getElem il⟩
        have hd : l.drop i = (p, k) :: l.drop (i + 1) := by
          rw [List.drop_eq_getElem_cons il]
          congr 1
          rw [List.getElem?_eq_getElem il] at hpk
          exact Option.some.inj hpk
        have hn : (nats l)[i]? = some ((p : Int), (k : Int)) := by
          unfold nats
          rw [List.getElem?_map, hpk]
          rfl
        obtain ⟨t', ht1, ht2⟩ := hP.at hn
        rw [ha] at ht1
        cases ht1
        rw [hd] at e6 e7 e8
        obtain ⟨f1, f2, f3, f4, f5, f6⟩ := e7
        have e6' : M * (p ^ k * prodP (l.drop (i + 1))) = m := e6
        have e8' : L.length * (4 * p ^ (k / 2) * lenP (l.drop (i + 1))) ≤ 16000000 := e8
        have P0 : 0 < p ^ k := by
          refine Nat.pow_pos ?_
          rcases f1 with e | e
          · omega
          · have := e.pr.1
            omega
        have Mm : M ≤ m := by
          rw [← e6']
          refine Nat.le_mul_of_pos_right _ ?_
          cases hz : p ^ k * prodP (l.drop (i + 1)) with
          | zero =>
            rw [hz] at e6'
            omega
          | succ n => omega
        have pP : p ≤ p ^ k := Nat.le_self_pow (by omega) p
        refine ⟨t, _, rfl, SqT.of (e2 _ _ ht2), rfl, _, _, rfl, _, _, rfl, rfl, ?_⟩
        refine ⟨_, rfl, _, rfl, p, k, rfl, by show p < 18446744073709551616; omega, by show k < 1152921504606846976; omega, ?_⟩
        refine ⟨_, rfl, _, rfl, _, rfl, _, rfl, _, rfl, z, p, k, rfl, f1, f2, f3, f4, fun H2 r ns s2 nr hr R2 nl => ?_⟩
        have lp : 1 ≤ lenP (l.drop (i + 1)) ∨ lenP (l.drop (i + 1)) = 0 := by omega
        have ll : L.length * ns.length ≤ L.length * (4 * p ^ (k / 2)) := Nat.mul_le_mul_left _ nl
        have l0 : 0 < lenP (l.drop (i + 1)) := by
          have key : ∀ (q : List (Nat × Nat)) (a : Nat), FacP a q → 0 < lenP q := by
            intro q
            induction q with
            | nil => intro a _; exact Nat.one_pos
            | cons x q ih =>
              intro a h
              obtain ⟨p, k⟩ := x
              obtain ⟨g1, _, _, _, _, g6⟩ := h
              have p0 : 0 < p := by
                rcases g1 with e | e
                · omega
                · have := e.pr.1
                  omega
              have a1 : 0 < p ^ (k / 2) := Nat.pow_pos p0
              exact Nat.mul_pos (by omega) (ih _ g6)
          exact key _ _ f6
        have big : L.length * ns.length * lenP (l.drop (i + 1)) ≤ 16000000 := by
          refine Nat.le_trans (Nat.mul_le_mul_right _ ll) ?_
          rw [Nat.mul_assoc]
          exact e8'
        have big1 : L.length * ns.length ≤ 16000000 := Nat.le_trans (Nat.le_mul_of_pos_right _ l0) big
        refine ⟨_, rfl, R, r, M, p ^ k, L, ns, z, rfl, s2 _ _ e3, hr, e5, P0, by show M < 1152921504606846976; omega, by show _ < 1152921504606846976; omega, ?_, e4, R2, big1, fun H3 J js s3 nJ hJ RJ lJ => ?_⟩
        · unfold gI
          rw [Int.natAbs_natCast, Int.natAbs_natCast, f5]
          rfl
        refine ⟨_, rfl, _, rfl, M, p ^ k, rfl, rfl, .inl (by show M < 18446744073709551616; omega), J, js, _, _, _, M * p ^ k, rfl, (e2.trans s2).trans s3, hJ, RJ, Nat.mul_pos e5 P0, ?_, f6, ?_⟩
        · rw [Nat.mul_assoc]
          exact e6'
        · rw [lJ]
          exact big
    · subst e1
      have el : l.drop (as.map V.ref).length = [] := by
        have h2 := hP.len
        unfold nats at h2
        rw [List.length_map] at h2
        rw [List.length_map, h2]
        exact List.drop_length
      rw [el] at e6
      have eM : M = m := by
        have : M * 1 = m := e6
        omega
      subst eM
      refine ⟨_, rfl, R, L, rfl, SqL.of e3, fun ns' r perm srt nr => ?_⟩
      have sA := (sR.trans s1).trans e2
      exact q _ r ns' (sA.trans (same_upd nr)) (Same.free sA nr) upd_same (rts_perm e4 perm) srt
theorem rts_few {z : Int} {m : Nat} {L : List Int} (R : Rts z m L) : L.length ≤ m := by
  have h := nodup_sub_len (l := L) (m := (List.range m).map fun (i : Nat) => (i : Int)) R.1 fun x hx => by
    obtain ⟨h1, h2, _⟩ := (R.2 x).mp hx
    exact List.mem_map.mpr ⟨x.toNat, List.mem_range.mpr (by omega), by omega⟩
  rw [List.length_map, List.length_range] at h
  exact h
def rtF (d n b : Int) : Fm := (n, b, (b * b - d).fdiv (4 * n))
theorem rt_of {d n : Int} (n0 : n ≠ 0) {ns : List Int} (R : Rts d (4 * n.natAbs) ns) (h : Fm) : h ∈ (ns.filter fun b => decide (b < 2 * (n.natAbs : Int))).map (rtF d n) ↔ Rt d n h := by
  have e4 : ((4 * n.natAbs : Nat) : Int) = 4 * (n.natAbs : Int) := by omega
  constructor
  · intro m
    obtain ⟨b, hb, rfl⟩ := List.mem_map.mp m
    obtain ⟨h1, h2⟩ := List.mem_filter.mp hb
    have h2 := of_decide_eq_true h2
    obtain ⟨b0, _, dv⟩ := (R.2 b).mp h1
    refine ⟨rfl, b0, h2, ?_⟩
    have dv : 4 * n ∣ b * b - d := by
      rw [e4] at dv
      have : (4 * (n.natAbs : Int)) ∣ b * b - d → 4 * n ∣ b * b - d := fun h => by
        rcases Int.natAbs_eq n with z | z
        · rw [← z] at h
          exact h
        · have e : 4 * (n.natAbs : Int) = -(4 * n) := by omega
          rw [e] at h
          exact Int.neg_dvd.mp h
      exact this dv
    obtain ⟨c, hc⟩ := dv
    show dsc n b ((b * b - d).fdiv (4 * n)) = d
    rw [hc, Int.mul_fdiv_cancel_left _ (by omega)]
    unfold dsc
    omega
  · rintro ⟨h1, h2, h3, h4⟩
    obtain ⟨a, b, c⟩ := h
    dsimp only at h1 h2 h3 h4
    subst h1
    unfold dsc at h4
    have e : b * b - d = 4 * a * c := by omega
    refine List.mem_map.mpr ⟨b, List.mem_filter.mpr ⟨(R.2 b).mpr ⟨h2, by omega, ?_⟩, decide_eq_true h3⟩, ?_⟩
    · rw [e4, e]
      rcases Int.natAbs_eq a with z | z
      · exact ⟨c, by rw [← z]⟩
      · exact ⟨-c, by
          have e2 : 4 * (a.natAbs : Int) = -(4 * a) := by omega
          rw [e2, Int.neg_mul, Int.mul_neg, Int.neg_neg]⟩
    · unfold rtF
      rw [e, Int.mul_fdiv_cancel_left _ (by omega)]
def spRootedForms (K : PySem.W.Frag) : Sp := fun vs H Q _ => ∃ (d n : Int) (l : List (Nat × Nat)), vs = [.int d, .int n] ∧ n ≠ 0 ∧ n.natAbs ≤ 1000000 ∧ Bd 60 d ∧ FacOk (4 * n.natAbs) l ∧
  ∀ (H' : Hp) (D : Addr) (ys : List V) (rs : List Fm), Same H H' → H D = none → H' D = some (.lst ys) → Tps K H' ys (rs.map fL) → (∀ h, h ∈ rs ↔ Rt d n h) → rs.Pairwise (fun h g => h.2.1 < g.2.1) → rs.length ≤ 2 * n.natAbs → Q (.ref D) H'
theorem okRootedForms (T : Txt K mg fa fd) : FnOk P w K mg base CX0 8 (fa 47) (fd 47) ["d", "n"] (spRootedForms K) := by
  refine T.F_rooted_forms.ok scRootedForms (fun vs H Q E h => ?_) (fun cdv A outer s H vs Q E hr h => ?_)
  · obtain ⟨d, n, l, rfl, n0, nb, bd, fo, kk⟩ := h
    rfl
  · obtain ⟨d, n, l, rfl, n0, nb, bd, fo, kk⟩ := h
    refine ⟨_, (pss_cons (ps_setLc (i := 2) (own := [("b", 3)]) (g := gName 3)  rfl scRootedForms.nd rfl rfl (sw_true rfl rfl rfl (by decide +kernel)) (piL K (pe_call (sp := spSquareRoots K) (okSquareRoots T) hr (by rfl) T.G_square_roots T.F_square_roots.kp T.B_square_roots .nil pass0 (pa_cons (pv 0) (pa_cons (pe_op op_mulW pe_int (pe_callB (absQ K) (by rfl) T.m_abs (by decide +kernel) (pa_cons (pv 1) pa_nil))) pa_nil)))) (blkOk_by (own := [("b", 3)]) (N := ["d", "n", "roots", "b"]) (sc := defScope sRootedForms) (by decide +kernel)) (fun _ _ _ _ _ => (pg_name (i := 3) scRootedForms.nd rfl (Or.inl rfl))) (fun _ _ _ _ _ => (pts_one (pt_cmp (pc_lt (pv 3) (pe_op op_mulW pe_int (pe_callB (absQ K) (by rfl) T.m_abs (by decide +kernel) (pa_cons (pv 1) pa_nil))))))) (fun _ _ _ _ _ => (pv 3)))
      (pss_one (ps_ret (pe_lc (own := [("b", 3)]) (g := gName 3) (tt := tYes) rfl scRootedForms.nd (piL K (pv 2)) (blkOk_by (own := [("b", 3)]) (N := ["d", "n", "roots", "b"]) (sc := defScope sRootedForms) (by decide +kernel)) (fun _ _ _ _ _ => (pg_name (i := 3) scRootedForms.nd rfl (Or.inl rfl))) (fun _ _ _ _ _ => pts_nil) (fun _ _ _ _ _ => (pe_tup (pa_cons (pv 1) (pa_cons (pv 3) (pa_cons (pe_op op_fdivX (pe_op op_sub (pe_op op_mulW (pv 3) (pv 3)) (pv 0)) (pe_op op_mulW pe_int (pv 1))) pa_nil))))))))), ?_⟩
    have bn : Bd 60 n := Bd.om (by omega)
    clean_wf
    refine ⟨d, 4 * n.natAbs, l, by rw [Int.natCast_mul]; rfl, by omega, by omega, fo, ?_⟩
    intro H1 r ns s1 n1 h1 rr so
    have nl := rts_few rr
    clean_wf
    refine R.refs (S := SqL K _) (xs := ns.map V.int) (SqL.of h1) ?_
    refine R.lcFs (fun b => decide (b < 2 * (n.natAbs : Int))) (by omega) (SqL.of h1) (fun b H2 C E hb s2 kC kE => ?_) (fun H2 D hD s2 nD => ?_)
    · obtain ⟨b0, b1, _⟩ := (rr.2 b).mp hb
      have bb : Bd 60 b := Bd.om (by omega)
      clean_wf
      refine ⟨rfl, ?_⟩
      clean_wf
      by_cases z : b < 2 * (n.natAbs : Int)
      · rw [decide_eq_true z] at kC
        refine wayT z ?_
        clean_wf
        exact kC rfl
      · rw [decide_eq_false z] at kE
        refine wayF z ?_
        exact kE rfl
    clean_wf
    have fl : (ns.filter fun b => decide (b < 2 * (n.natAbs : Int))).length ≤ 2 * n.natAbs := by
      have h := nodup_sub_len (l := ns.filter fun b => decide (b < 2 * (n.natAbs : Int))) (m := (List.range (2 * n.natAbs)).map fun (i : Nat) => (i : Int)) (rr.1.filter _) fun x hx => by
        obtain ⟨h1, h2⟩ := List.mem_filter.mp hx
        have h2 := of_decide_eq_true h2
        obtain ⟨b0, _, _⟩ := (rr.2 x).mp h1
        exact List.mem_map.mpr ⟨x.toNat, List.mem_range.mpr (by omega), by omega⟩
      rw [List.length_map, List.length_range] at h
      exact h
    refine R.refs (S := SqL K _) (xs := (ns.filter fun b => decide (b < 2 * (n.natAbs : Int))).map V.int) (SqL.of hD) ?_
    refine R.lcTn (fun i => fL (rtF d n ((ns.filter fun b => decide (b < 2 * (n.natAbs : Int))).getD i 0))) (by rw [List.length_map]; omega) (SqL.of hD) (fun i x H3 Q3 hx s3 q3 => ?_) (fun H3 D3 ys hD3 hy s3 nD3 => ?_)
    · rw [List.getElem?_map] at hx
      cases hb : (ns.filter fun b => decide (b < 2 * (n.natAbs : Int)))[i]? with
      | none =>
        rw [hb] at hx
        cases hx
      | some b =>
        rw [hb] at hx
        cases hx
        rw [List.getD_eq_getElem?_getD, hb, Option.getD_some] at q3
        obtain ⟨b0, b1, _⟩ := (rr.2 b).mp (List.mem_filter.mp (List.mem_of_getElem? hb)).1
        have bb : Bd 60 b := Bd.om (by omega)
        clean_wf
        refine ⟨rfl, ?_⟩
        clean_wf
        exact q3 _ _ sn (SqT.of ht)
    · refine kk _ D3 ys ((ns.filter fun b => decide (b < 2 * (n.natAbs : Int))).map (rtF d n)) ((s1.trans s2).trans s3) ?_ hD3 ?_ (rt_of n0 rr) ?_ ?_
      · exact Same.free (s1.trans s2) nD3
      · have e : ((ns.filter fun b => decide (b < 2 * (n.natAbs : Int))).map (rtF d n)).map fL = (List.range ((ns.filter fun b => decide (b < 2 * (n.natAbs : Int))).map V.int).length).map fun i => fL (rtF d n ((ns.filter fun b => decide (b < 2 * (n.natAbs : Int))).getD i 0)) := by
          rw [List.map_map, List.length_map]
          refine List.ext_getElem (by simp) fun i h1 h2 => ?_
          have hi : i < (ns.filter fun b => decide (b < 2 * (n.natAbs : Int))).length := by simpa using h1
          rw [List.getElem_map, List.getElem_map, List.getElem_range, List.getD_eq_getElem?_getD, List.getElem?_eq_getElem hi]
          rfl
        rw [e]
        exact hy
      · refine List.pairwise_map.mpr ?_
        have pw : ns.Pairwise (· < ·) := (so.and rr.1).imp fun ⟨x, y⟩ => by omega
        exact (pw.sublist List.filter_sublist).imp fun h => h
      · rw [List.length_map]
        exact fl
def AnQ (K : PySem.W.Frag) (H : Hp) (f : Fm) (Q : VK) : Prop := ∀ (H' : Hp) (t tf tm : Addr) (h : Fm) (m : M4), Same H H' → H' t = some (.tup [.ref tf, .ref tm]) → SqT K H' tf ((fL h).map V.int) → SqT K H' tm ((mL m).map V.int) → detM m = 1 → h = actM f m → RdS (srtF f) h → BdM 14100 m → Q (.ref t) H'
def spAnyReduced (K : PySem.W.Frag) : Sp := fun vs H Q _ => ∃ (af : Addr) (f : Fm), vs = [.ref af] ∧ SqT K H af ((fL f).map V.int) ∧ Ns f ∧ SmG f ∧ AnQ K H f Q
theorem uAnyReduced {K : PySem.W.Frag} {H : Hp} {Q : VK} {E : XK} {vs : List V} {af : Addr} {f : Fm} (e : vs = [.ref af]) (hs : SqT K H af ((fL f).map V.int)) (N : Ns f) (S : SmG f) (kk : AnQ K H f Q) : spAnyReduced K vs H Q E := ⟨af, f, e, hs, N, S, kk⟩
theorem bd_sm {x : Int} (h : x.natAbs ≤ 274877906944) : Bd 3000 x := (Bd.of h (show 274877906944 < 2 ^ 60 by decide)).mono (by decide)
theorem okAnyReduced (T : Txt K mg fa fd) : FnOk P w K mg base CX0 10 (fa 48) (fd 48) ["form"] (spAnyReduced K) := by
  refine T.F_any_reduced.ok scAnyReduced (fun vs H Q E h => ?_) (fun cdv A outer s H vs Q E hr h => ?_)
  · obtain ⟨af, f, rfl, hs, N, S, kk⟩ := h
    rfl
  · obtain ⟨af, f, rfl, hs, N, S, kk⟩ := h
    refine ⟨_, (pss_cons (ps_if (pt_cmpR op_eq (pe_call (sp := spKind K) (okKind T) (hr.mono (by decide)) (by rfl) T.G_kind T.F_kind.kp T.B_kind .nil pass0 (pa_cons (pv 0) pa_nil)) pe_str (nomark _))
      (pss_one (ps_ret (pe_call (sp := spReduceDefinite K) (okReduceDefinite T) hr (by rfl) T.G_reduce_definite T.F_reduce_definite.kp T.B_reduce_definite .nil pass0 (pa_cons (pv 0) pa_nil))))
      pss_nil)
      (pss_one (ps_ret (pe_call (sp := spReduceIndefinite K) (okReduceIndefinite T) (hr.mono (by decide)) (by rfl) T.G_reduce_indefinite T.F_reduce_indefinite.kp T.B_reduce_indefinite .nil pass0 (pa_cons (pv 0) pa_nil))))), ?_⟩
    obtain ⟨a, b, c⟩ := f
    obtain ⟨b1, b2, b3⟩ := S
    have hs : SqT K H af [.int a, .int b, .int c] := hs
    have b1 : a.natAbs ≤ 274877906944 := b1
    have b2 : b.natAbs ≤ 274877906944 := b2
    have b3 : c.natAbs ≤ 274877906944 := b3
    have g1 := bd_sm b1
    have g2 := bd_sm b2
    have g3 := bd_sm b3
    have hk : kindS (dsc a b c) = kdS (srtF (a, b, c)) := inS_kd N
    unfold Ns at N
    clean_wf
    rw [hk]
    by_cases z : dcF (a, b, c) < 0
    · rw [srt_d z] at N ⊢
      obtain ⟨hg, F⟩ := N
      have F : PF (-dcF (a, b, c)) (sgF (a, b, c) * a) (sgF (a, b, c) * b) (sgF (a, b, c) * c) := F
      have hg : (sgF (a, b, c) = 1 ∧ 0 < a) ∨ (sgF (a, b, c) = -1 ∧ a < 0) := hg
      refine wayT rfl ?_
      clean_wf
      refine ⟨af, a, b, c, _, _, rfl, hs, hg, F, by omega, by omega, by omega, ?_⟩
      intro H' t tf tm a' b' c' p q r s sm ht sf st ri red n1 n2 n3 n4
      clean_wf
      have ea := ri.ea
      have eb := ri.eb
      have ec := ri.ec
      rw [fA_sg] at ea ec
      rw [fB_sg] at eb
      have e : (a', b', c') = actM (a, b, c) (p, q, r, s) := fm_ext (sg_cancel (sg_or hg) ea) (sg_cancel (sg_or hg) eb) (sg_cancel (sg_or hg) ec)
      exact kk _ _ _ _ (a', b', c') (p, q, r, s) sm ht sf st ri.det e (by rw [srt_d z]; exact red) ⟨n1.mono (by decide), n2.mono (by decide), n3.mono (by decide), n4.mono (by decide)⟩
    · rw [srt_i z] at N ⊢
      obtain ⟨F, hD⟩ := N
      have F : IF (dcF (a, b, c)) a b c := F
      refine wayF (fun h => by injection h with h; exact absurd (show ("indefinite" : Str) = "definite" from h) (by decide)) ?_
      clean_wf
      refine ⟨af, a, b, c, _, rfl, hs, F, by omega, by omega, by omega, ?_⟩
      intro H' t tf tm a' b' c' p q r s sm ht sf st ri red n1 n2 n3 n4
      clean_wf
      have e : (a', b', c') = actM (a, b, c) (p, q, r, s) := fm_ext ri.ea ri.eb ri.ec
      exact kk _ _ _ _ (a', b', c') (p, q, r, s) sm ht sf st ri.det e (by rw [srt_i z]; exact red) ⟨n1, n2, n3, n4⟩
def WyQ (K : PySem.W.Frag) (H : Hp) (f : Fm) (Q : VK) : Prop := ∀ (H' : Hp) (D : Addr) (L : DL) (es : List (Fm × M4)), Same H H' → H D = none → H' D = some (DicTO D L) → DLs K H' L (wyL es) → WyS (srtF f) f es → Q (.ref D) H'
def spWaysToReduced (K : PySem.W.Frag) : Sp := fun vs H Q _ => ∃ (af : Addr) (f : Fm), vs = [.ref af] ∧ SqT K H af ((fL f).map V.int) ∧ Ns f ∧ SmG f ∧ WyQ K H f Q
theorem uWaysToReduced {K : PySem.W.Frag} {H : Hp} {Q : VK} {E : XK} {vs : List V} {af : Addr} {f : Fm} (e : vs = [.ref af]) (hs : SqT K H af ((fL f).map V.int)) (N : Ns f) (S : SmG f) (kk : WyQ K H f Q) : spWaysToReduced K vs H Q E := ⟨af, f, e, hs, N, S, kk⟩
/-- reduced definite forms of one class are alike -/
theorem red_one {f h h' : Fm} {m m' : M4} (N : Ns f) (z : dcF f < 0) (d : detM m = 1) (e : h = actM f m) (R1 : RdS (srtF f) h) (d' : detM m' = 1) (e' : h' = actM f m') (R2 : RdS (srtF f) h') : h = h' := by
  unfold Ns at N
  rw [srt_d z] at N R1 R2
  exact cn_uniq (S := .d (-dcF f) (sgF f)) N ⟨m, d, e, R1⟩ ⟨m', d', e', R2⟩
/-- reduced indefinite forms of one class stand in one ring -/
theorem red_ring {f h h' : Fm} {m m' : M4} {k : Nat} (N : Ns f) (z : ¬ dcF f < 0) (d : detM m = 1) (e : h = actM f m) (R1 : RdS (srtF f) h) (d' : detM m' = 1) (e' : h' = actM f m') (R2 : RdS (srtF f) h') (cy : Cyc (dcF f) h (k + 1)) : ∃ i, i < k + 1 ∧ rhoN (dcF f) i h = h' := by
  have n1 := (N.act d).1
  have n2 := (N.act d').1
  rw [← e] at n1
  rw [← e'] at n2
  have c1 : dcF h = dcF f := by rw [e]; exact dc_act d
  have c2 : dcF h' = dcF f := by rw [e']; exact dc_act d'
  unfold Ns at n1 n2
  rw [srt_i (by rw [c1]; exact z), c1] at n1
  rw [srt_i (by rw [c2]; exact z), c2] at n2
  rw [srt_i z] at R1 R2
  have per : ∀ f' : Fm, IFf (dcF f) f' → RDf (dcF f) f' → ∃ n, 0 < n ∧ rhoN (dcF f) n f' = f' := fun f' F' R' => by
    obtain ⟨k', cy', _⟩ := ring_ok F' R' n1.2
    exact ⟨k' + 1, Nat.succ_pos _, cy'.back⟩
  have dd : detM (mx (adjM m) m') = 1 := by rw [det_mx, det_adj, d, d']; rfl
  have ee : h' = actM h (mx (adjM m) m') := by rw [← actM_mx, ← act_undo d e]; exact e'
  obtain ⟨i, hi⟩ := class_cycle per n1.1 n2.1 R1 R2 (show (mx (adjM m) m').1 * (mx (adjM m) m').2.2.2 - (mx (adjM m) m').2.1 * (mx (adjM m) m').2.2.1 = 1 from dd) ee
  exact ⟨i % (k + 1), Nat.mod_lt _ (Nat.succ_pos _), by rw [cy.mod]; exact hi⟩
theorem okWaysToReduced (T : Txt K mg fa fd) : FnOk P w K mg base CX0 11 (fa 49) (fd 49) ["form"] (spWaysToReduced K) := by
  refine T.F_ways_to_reduced.ok scWaysToReduced (fun vs H Q E h => ?_) (fun cdv A outer s H vs Q E hr h => ?_)
  · obtain ⟨af, f, rfl, hs, N, S, kk⟩ := h
    rfl
  · obtain ⟨af, f, rfl, hs, N, S, kk⟩ := h
    refine ⟨_, (pss_cons (ps_asg (pe_call (sp := spAnyReduced K) (okAnyReduced T) hr (by rfl) T.G_any_reduced T.F_any_reduced.kp T.B_any_reduced .nil pass0 (pa_cons (pv 0) pa_nil)) (pgT K 2 (by rfl) (pgs_cons (pg_name (i := 1) scWaysToReduced.nd rfl (Or.inl rfl)) (pgs_cons (pg_name (i := 2) scWaysToReduced.nd rfl (Or.inr rfl)) pgs_nil))))
      (pss_cons (ps_if (pt_cmpR op_eq (pe_call (sp := spKind K) (okKind T) (hr.mono (by decide)) (by rfl) T.G_kind T.F_kind.kp T.B_kind .nil pass0 (pa_cons (pv 0) pa_nil)) pe_str (nomark _))
      (pss_one (ps_ret (pe_disp1Q K P w (hu_of hr) (pv 1) (pv 2))))
      pss_nil)
      (pss_one (ps_ret (pe_dcTQ K P w (hu_of hr) (ow := [("other", 3), ("n", 4)])  (tt := tYes) rfl scWaysToReduced.nd (piL K (pe_call (sp := spCycle K) (okCycle T) (hr.mono (by decide)) (by rfl) T.G_cycle T.F_cycle.kp T.B_cycle .nil pass0 (pa_cons (pv 1) pa_nil))) (blkOk_by (own := [("other", 3), ("n", 4)]) (N := ["form", "reduced", "m", "other", "n"]) (sc := defScope sWaysToReduced) (by decide +kernel)) (fun _ _ _ _ _ => (pgT K 2 (by rfl) (pgs_cons (pg_name (i := 3) scWaysToReduced.nd rfl (Or.inl rfl)) (pgs_cons (pg_name (i := 4) scWaysToReduced.nd rfl (Or.inl rfl)) pgs_nil)))) (fun _ _ _ _ _ => pts_nil) (fun _ _ _ _ _ => (pv 3)) (fun _ _ _ _ _ => (pe_call (sp := spMultiply K) (okMultiply T) (hr.mono (by decide)) (by rfl) T.G_multiply T.F_multiply.kp T.B_multiply .nil pass0 (pa_cons (pv 2) (pa_cons (pv 4) pa_nil))))))))), ?_⟩
    obtain ⟨a, b, c⟩ := f
    have hs' : SqT K H af [.int a, .int b, .int c] := hs
    have g1 : Bd 3000 a := bd_sm S.1
    have g2 : Bd 3000 b := bd_sm S.2.1
    have g3 : Bd 3000 c := bd_sm S.2.2
    have hk : kindS (dsc a b c) = kdS (srtF (a, b, c)) := inS_kd N
    clean_wf
    refine uAnyReduced rfl hs N S ?_
    intro H1 t tf tm h m s1 ht sf sm dm e rd bm
    have hs1 := same_seqT s1 hs'
    clean_wf
    rw [hk]
    by_cases z : dcF (a, b, c) < 0
    · refine wayT (by rw [srt_d z]; rfl) ?_
      clean_wf
      refine R.disp1 (fun p H2 s2 np hp => ?_)
      clean_wf
      refine ⟨hp, tf, fL h, rfl, same_seqT s2 sf, ?_⟩
      clean_wf
      have sl := same_mut s2 np (o := DicTO p [(tf, fL h, V.ref tm)])
      refine kk _ p _ [(h, m)] (s1.trans sl) (Same.free s1 np) upd_same (.cons ⟨rfl, same_seqT sl sf, tm, rfl, same_seqT sl sm⟩ .nil) ⟨fun x hx => ?_, fun h' m' d' e' R' => ⟨(h, m), List.mem_singleton.mpr rfl, red_one N z dm e rd d' e' R'⟩⟩
      rw [List.mem_singleton.mp hx]
      exact ⟨dm, e, bm.1.mono (by decide), bm.2.1.mono (by decide), bm.2.2.1.mono (by decide), bm.2.2.2.mono (by decide)⟩
    · refine wayF (fun y => by rw [srt_i z] at y; injection y with y; exact absurd (show ("indefinite" : Str) = "definite" from y) (by decide)) ?_
      clean_wf
      have n1 := (N.act dm).1
      rw [← e] at n1
      have c1 : dcF h = dcF (a, b, c) := by rw [e]; exact dc_act dm
      unfold Ns at n1
      rw [srt_i (by rw [c1]; exact z), c1] at n1
      have rd2 := rd
      rw [srt_i z] at rd2
      obtain ⟨x1, x2, x3⟩ := h
      obtain ⟨k, cy, hk9⟩ := ring_ok (f := (x1, x2, x3)) n1.1 rd2 n1.2
      have F9 : IF (dcF (a, b, c)) x1 x2 x3 := n1.1
      have hD9 := n1.2
      have rd2 : RedI (dcF (a, b, c)) x1 x2 := rd2
      have sf : SqT K H1 tf [.int x1, .int x2, .int x3] := sf
      refine R.dcE ?_
      clean_wf
      intro H2 l ys s2 nl hl pp
      have ly := pp.len
      rw [ringP_len] at ly
      have sm2 := same_seqT s2 sm
      refine R.refs (S := SqL K _) (xs := ys) (SqL.of hl) ?_
      refine R.dcL (fun i => (fL (rhoN (dcF (a, b, c)) i (x1, x2, x3)), mL (mx m (mN (dcF (a, b, c)) (x1, x2, x3) i)))) (by omega) (SqL.of hl) (fun i j ij jl e3 => ?_) (fun i x H3 C hx s3 q3 => ?_) (fun H3 D L hD dl s3 nD => ?_)
      · have e4 := fL_inj e3
        refine cy.first (j - i) (by omega) (by omega) ?_
        have u := rhoN_ok (f := (x1, x2, x3)) i n1.1 rd2
        have v := rhoN_ok (f := (x1, x2, x3)) (j - i) n1.1 rd2
        refine rhoN_inj i v.1 v.2 n1.1 rd2 ?_
        rw [← rhoN_add, show j - i + i = j by omega]
        exact e4.symm
      · obtain ⟨ax, u, v, f9, m9, rfl, hp9, st9, sf9, sm9⟩ := pp.at hx
        obtain ⟨ik, ep⟩ := ringP_at hp9
        injection ep with ep1 ep2
        subst ep1 ep2
        obtain ⟨_, _, mb⟩ := mN_ok (f := (x1, x2, x3)) n1.1 rd2 i
        have st9 := same_seqT s3 st9
        have sf9 := same_seqT s3 sf9
        have sm9 := same_seqT s3 sm9
        have sm3 := same_seqT s3 sm2
        generalize mN (dcF (a, b, c)) (x1, x2, x3) i = M at *
        obtain ⟨p1, p2, p3, p4⟩ := m
        obtain ⟨m1, m2, m3, m4⟩ := M
        obtain ⟨y1, y2, y3, y4⟩ := bm
        obtain ⟨y5, y6, y7, y8⟩ := mb
        have y5 := y5.mono (show 14 * i + 1 ≤ 22800 by omega)
        have y6 := y6.mono (show 14 * i + 1 ≤ 22800 by omega)
        have y7 := y7.mono (show 14 * i + 1 ≤ 22800 by omega)
        have y8 := y8.mono (show 14 * i + 1 ≤ 22800 by omega)
        have sm9 : SqT K H3 v [.int m1, .int m2, .int m3, .int m4] := sm9
        have sm3 : SqT K H3 tm [.int p1, .int p2, .int p3, .int p4] := sm3
        clean_wf
        refine ⟨rfl, ?_⟩
        clean_wf
        exact q3 _ _ _ sn (same_seqT sn sf9) (SqT.of ht)
      · rw [ly] at dl
        refine kk H3 D L ((List.range (k + 1)).map fun i => (rhoN (dcF (a, b, c)) i (x1, x2, x3), mx m (mN (dcF (a, b, c)) (x1, x2, x3) i))) (s1.trans (s2.trans s3)) (Same.free (s1.trans s2) nD) hD (by unfold wyL; rw [List.map_map]; exact dl) ⟨fun x hx => ?_, fun h' m' d' e' R' => ?_⟩
        · obtain ⟨i, hi, rfl⟩ := List.mem_map.mp hx
          have hi := List.mem_range.mp hi
          obtain ⟨md, me, mb⟩ := mN_ok (f := (x1, x2, x3)) n1.1 rd2 i
          refine ⟨by rw [det_mx, dm, md]; rfl, ?_, bdM_mono (bdM_mx bm mb) (by omega)⟩
          show rhoN (dcF (a, b, c)) i (x1, x2, x3) = _
          rw [← actM_mx, ← e]
          exact me
        · obtain ⟨i, hi, e9⟩ := red_ring N z dm e rd d' e' R' cy
          exact ⟨_, List.mem_map.mpr ⟨i, List.mem_range.mpr hi, rfl⟩, e9⟩
def CgY (K : PySem.W.Frag) (H : Hp) (f g : Fm) (Q : VK) : Prop := ∀ (H' : Hp) (t : Addr) (m : M4), Same H H' → detM m = 1 → g = actM f m → BdM 54200 m → SqT K H' t ((mL m).map V.int) → Q (.ref t) H'
def CgN (H : Hp) (f g : Fm) (Q : VK) : Prop := ∀ H', Same H H' → (∀ m, detM m = 1 → g ≠ actM f m) → Q .non H'
def spChangeByWays (K : PySem.W.Frag) : Sp := fun vs H Q _ => ∃ (aw ag : Addr) (L : DL) (es : List (Fm × M4)) (f g : Fm), vs = [.ref aw, .ref ag] ∧ H aw = some (DicTO aw L) ∧ DLs K H L (wyL es) ∧ WyS (srtF f) f es ∧ SqT K H ag ((fL g).map V.int) ∧ Ns f ∧ Ns g ∧ SmG g ∧ CgY K H f g Q ∧ CgN H f g Q
theorem uChangeByWays {K : PySem.W.Frag} {H : Hp} {Q : VK} {E : XK} {vs : List V} {aw ag : Addr} {L : DL} {es : List (Fm × M4)} {f g : Fm} (e : vs = [.ref aw, .ref ag]) (hw : H aw = some (DicTO aw L)) (dl : DLs K H L (wyL es)) (wy : WyS (srtF f) f es) (hs : SqT K H ag ((fL g).map V.int)) (N : Ns f) (N2 : Ns g) (S : SmG g)
    (k1 : CgY K H f g Q) (k2 : CgN H f g Q) : spChangeByWays K vs H Q E := ⟨aw, ag, L, es, f, g, e, hw, dl, wy, hs, N, N2, S, k1, k2⟩
theorem okChangeByWays (T : Txt K mg fa fd) : FnOk P w K mg base CX0 11 (fa 50) (fd 50) ["ways", "form"] (spChangeByWays K) := by
  refine T.F_change_by_ways.ok scChangeByWays (fun vs H Q E h => ?_) (fun cdv A outer s H vs Q E hr h => ?_)
  · obtain ⟨aw, ag, L, es, f, g, rfl, hw, dl, wy, hs, N, N2, S, k1, k2⟩ := h
    rfl
  · obtain ⟨aw, ag, L, es, f, g, rfl, hw, dl, wy, hs, N, N2, S, k1, k2⟩ := h
    refine ⟨_, (pss_cons (ps_asg (pe_call (sp := spAnyReduced K) (okAnyReduced T) hr (by rfl) T.G_any_reduced T.F_any_reduced.kp T.B_any_reduced .nil pass0 (pa_cons (pv 1) pa_nil)) (pgT K 2 (by rfl) (pgs_cons (pg_name (i := 2) scChangeByWays.nd rfl (Or.inl rfl)) (pgs_cons (pg_name (i := 3) scChangeByWays.nd rfl (Or.inl rfl)) pgs_nil))))
      (pss_cons (ps_if (pt_cmpR (notInDTQ K P w (hu_of hr)) (pv 2) (pv 0) (by with_unfolding_all rfl))
      (pss_one (ps_ret pe_non))
      pss_nil)
      (pss_one (ps_ret (pe_call (sp := spMultiply K) (okMultiply T) (hr.mono (by decide)) (by rfl) T.G_multiply T.F_multiply.kp T.B_multiply .nil pass0 (pa_cons (pe_dgetTQ K P w (hu_of hr) (pv 0) (pv 2) (fun _ _ => rfl)) (pa_cons (pe_call (sp := spInverse K) (okInverse T) (hr.mono (by decide)) (by rfl) T.G_inverse T.F_inverse.kp T.B_inverse .nil pass0 (pa_cons (pv 3) pa_nil)) pa_nil))))))), ?_⟩
    clean_wf
    refine uAnyReduced rfl hs N2 S ?_
    intro H1 t tf tm h m s1 ht sf sm dm e rd bm
    have hw1 := s1 _ _ hw
    have dl1 := dl.same s1
    clean_wf
    refine R.notInDT hw1 dl1 sf ?_
    cases lk : lkE (wyL es) (fL h) with
    | none =>
      clean_wf
      refine k2 _ s1 fun n dn en => ?_
      have eh : h = actM f (mx n m) := by rw [e, en, actM_mx]
      have hs2 : srtF g = srtF f := by rw [en]; exact (N.act dn).2
      rw [hs2] at rd
      obtain ⟨x, hx, ex⟩ := wy.all h (mx n m) (by rw [det_mx, dn, dm]; rfl) eh rd
      exact wy_none lk x hx ex
    | some k =>
      obtain ⟨o, ho, rfl⟩ := wy_some lk
      obtain ⟨od, oe, ob⟩ := wy.ok _ ho
      clean_wf
      refine wayF (fun z => Bool.false_ne_true z) ?_
      clean_wf
      refine R.dgetTE ?_
      clean_wf
      refine R.dgetT hw1 dl1 sf lk (fun c sc => ?_)
      obtain ⟨o1, o2, o3, o4⟩ := o
      obtain ⟨m1, m2, m3, m4⟩ := m
      obtain ⟨y1, y2, y3, y4⟩ := ob
      obtain ⟨y5, y6, y7, y8⟩ := bm
      have sc : SqT K H1 c [.int o1, .int o2, .int o3, .int o4] := sc
      have sm : SqT K H1 tm [.int m1, .int m2, .int m3, .int m4] := sm
      have dd : m1 * m4 - m2 * m3 = 1 := dm
      have dd2 : m1 * m4 - m2 * m3 = 1 ∨ m1 * m4 - m2 * m3 = -1 := .inl dd
      clean_wf
      have sall : Same H1 HN := by array_mem_dec
      rw [dd] at ht
      simp only [Int.one_mul] at ht
      refine k1 _ tn (mx (o1, o2, o3, o4) (adjM (m1, m2, m3, m4))) (s1.trans sall) (by rw [det_mx, od, det_adj, dm]; rfl) ?_ ?_ (SqT.of ht)
      · rw [← actM_mx, ← oe]
        exact act_undo dm e
      · exact bdM_mono (bdM_mx (n := 40000) (k := 14100) ⟨y1, y2, y3, y4⟩ (bdM_adj (m := (m1, m2, m3, m4)) ⟨y5, y6, y7, y8⟩)) (by decide)
def FpQ (K : PySem.W.Frag) (H : Hp) (f : Fm) (n : Int) (Q : VK) : Prop := ∀ (H' : Hp) (D : Addr) (ys : List V) (pts : List (Int × Int)), Same H H' → H D = none → H' D = some (.lst ys) → Pd H' ys pts → FPs f n pts → (∀ p ∈ pts, Bd 54300 p.1 ∧ Bd 54300 p.2) → pts.length ≤ 40 * n.natAbs → Q (.ref D) H'
def spFirstPoints (K : PySem.W.Frag) : Sp := fun vs H Q _ => ∃ (af : Addr) (f0 : Fm) (g n : Int), vs = [.ref af, .int n] ∧ SqT K H af ((fL (scF g f0)).map V.int) ∧ FrOk f0 g n ∧ FpQ K H (scF g f0) n Q
theorem uFirstPoints {K : PySem.W.Frag} {H : Hp} {Q : VK} {E : XK} {vs : List V} {af : Addr} {f0 : Fm} {g n : Int} (e : vs = [.ref af, .int n]) (hs : SqT K H af ((fL (scF g f0)).map V.int)) (ok : FrOk f0 g n) (kk : FpQ K H (scF g f0) n Q) : spFirstPoints K vs H Q E := ⟨af, f0, g, n, e, hs, ok, kk⟩
theorem okFirstPoints (T : Txt K mg fa fd) : FnOk P w K mg base CX0 12 (fa 51) (fd 51) ["form", "n"] (spFirstPoints K) := by
  refine T.F_first_points.ok scFirstPoints (fun vs H Q E h => ?_) (fun cdv A outer s H vs Q E hr h => ?_)
  · obtain ⟨af, f0, g, n, rfl, hs, ok, kk⟩ := h
    rfl
  · obtain ⟨af, f0, g, n, rfl, hs, ok, kk⟩ := h
    refine ⟨_, (pss_cons (ps_set (i := 2) scFirstPoints.nd rfl (Or.inl rfl) (pe_call (sp := spContent K) (okContent T) (hr.mono (by decide)) (by rfl) T.G_content T.F_content.kp T.B_content .nil pass0 (pa_cons (pv 0) pa_nil)))
      (pss_cons (ps_if (pt_cmp (pc_neI (pe_op op_modN (pv 1) (pv 2)) pe_int))
      (pss_one (ps_ret (pe_lst pa_nil)))
      pss_nil)
      (pss_cons (ps_set (i := 3) scFirstPoints.nd rfl (Or.inl rfl) (pe_call (sp := spDivided K) (okDivided T) (hr.mono (by decide)) (by rfl) T.G_divided T.F_divided.kp T.B_divided .nil pass0 (pa_cons (pv 0) (pa_cons (pv 2) pa_nil))))
      (pss_cons (ps_set (i := 4) scFirstPoints.nd rfl (Or.inl rfl) (pe_call (sp := spDiscriminant K) (okDiscriminant T) (hr.mono (by decide)) (by rfl) T.G_discriminant T.F_discriminant.kp T.B_discriminant .nil pass0 (pa_cons (pv 3) pa_nil)))
      (pss_cons (ps_set (i := 5) scFirstPoints.nd rfl (Or.inl rfl) (pe_call (sp := spWaysToReduced K) (okWaysToReduced T) hr (by rfl) T.G_ways_to_reduced T.F_ways_to_reduced.kp T.B_ways_to_reduced .nil pass0 (pa_cons (pv 3) pa_nil)))
      (pss_cons (ps_set (i := 6) scFirstPoints.nd rfl (Or.inl rfl) (pe_lst pa_nil))
      (pss_cons (ps_for PassesOwn.never rfl (piL K (pe_call (sp := spSquareMeasures K) (okSquareMeasures T) (hr.mono (by decide)) (by rfl) T.G_square_measures T.F_square_measures.kp T.B_square_measures .nil pass0 (pa_cons (pe_op op_fdivX (pv 1) (pv 2)) pa_nil))) (pg_name (i := 7) scFirstPoints.nd rfl (Or.inl rfl))
      (pss_one (ps_for PassesOwn.never rfl (piL K (pe_call (sp := spRootedForms K) (okRootedForms T) (hr.mono (by decide)) (by rfl) T.G_rooted_forms T.F_rooted_forms.kp T.B_rooted_forms .nil pass0 (pa_cons (pv 4) (pa_cons (pe_op op_fdivX (pe_op op_fdivX (pv 1) (pv 2)) (pe_op op_mulW (pv 7) (pv 7))) pa_nil)))) (pg_name (i := 8) scFirstPoints.nd rfl (Or.inl rfl))
        (pss_cons (ps_set (i := 9) scFirstPoints.nd rfl (Or.inl rfl) (pe_call (sp := spChangeByWays K) (okChangeByWays T) hr (by rfl) T.G_change_by_ways T.F_change_by_ways.kp T.B_change_by_ways .nil pass0 (pa_cons (pv 5) (pa_cons (pv 8) pa_nil))))
          (pss_one (ps_if (pt_cmpR op_notN (pv 9) pe_non (nomark _))
          (pss_one (ps_expr (pe_bm PySem.F.plainAttrs_list PySem.F.slot_list_append PySem.F.type_list_append mt_append (pv 6) (pa_cons (pe_call (sp := spApply K) (okApply T) (hr.mono (by decide)) (by rfl) T.G_apply T.F_apply.kp T.B_apply .nil pass0 (pa_cons (pv 9) (pa_cons (pe_tup (pa_cons (pv 7) (pa_cons pe_int pa_nil))) pa_nil))) pa_nil))))
          pss_nil))))))
      (pss_one (ps_ret (pv 6)))))))))), ?_⟩
    obtain ⟨A, B, C⟩ := f0
    obtain ⟨g0, g1, gl, _, N, b1, b2, b3, n0, nb, num⟩ := ok
    have hs : SqT K H af [.int (g * A), .int (g * B), .int (g * C)] := hs
    have gl : gL [g * A, g * B, g * C] = g := gl
    have bA : Bd 20 A := Nat.lt_of_le_of_lt (show A.natAbs ≤ 1000000 from b1) (by decide)
    have bB : Bd 20 B := Nat.lt_of_le_of_lt (show B.natAbs ≤ 1000000 from b2) (by decide)
    have bC : Bd 20 C := Nat.lt_of_le_of_lt (show C.natAbs ≤ 1000000 from b3) (by decide)
    have bg : Bd 20 g := Nat.lt_of_le_of_lt (show g.natAbs ≤ 1000000 by omega) (by decide)
    have bn : Bd 30 n := Nat.lt_of_le_of_lt (show n.natAbs ≤ 1000000000 by omega) (by decide)
    have ea : (g * A).fdiv g = A := Int.mul_fdiv_cancel_left _ (by omega)
    have eb : (g * B).fdiv g = B := Int.mul_fdiv_cancel_left _ (by omega)
    have ec : (g * C).fdiv g = C := Int.mul_fdiv_cancel_left _ (by omega)
    clean_wf
    rw [gl]
    by_cases dv : g ∣ n
    · obtain ⟨n', hn'⟩ := dv
      have e1 : n.fmod g = 0 := by rw [Int.fmod_eq_emod_of_nonneg _ (by omega), hn', Int.mul_emod_right]
      have e2 : n.fdiv g = n' := by rw [hn']; exact Int.mul_fdiv_cancel_left _ (by omega)
      have ok := num ⟨n', hn'⟩
      rw [e2] at ok
      have g9 : g ≠ 0 := by omega
      rw [decide_eq_true e1]
      refine wayF (fun z => Bool.false_ne_true z) ?_
      clean_wf
      rw [ea, eb, ec] at ht
      rw [ea, eb, ec]
      obtain ⟨d, hd⟩ : ∃ d, B * B - 4 * A * C = d := ⟨_, rfl⟩
      have bd : Bd 60 d := by
        rw [← hd]
        have b4 : Bd 3 4 := show (4 : Int).natAbs < 2 ^ 3 by decide
        exact ((bB.mul bB).sub ((b4.mul bA).mul bC)).mono (by decide)
      rw [hd]
      have fd : dsc A B C = d := hd
      have sP : SqT K HN tn ((fL (A, B, C)).map V.int) := SqT.of ht
      have b1 : A.natAbs ≤ 1000000 := b1
      have b2 : B.natAbs ≤ 1000000 := b2
      have b3 : C.natAbs ≤ 1000000 := b3
      have sS : SmG (A, B, C) := ⟨by show A.natAbs ≤ _; omega, by show B.natAbs ≤ _; omega, by show C.natAbs ≤ _; omega⟩
      have s0 := sn
      clear ht sn
      generalize tn = tP at *
      generalize HN = H0 at *
      refine uWaysToReduced rfl sP N sS ?_
      intro Hw aw L es sw naw haw dl wy
      obtain ⟨k0, kb, ⟨lq, hq⟩, krt⟩ := ok
      have bn2 : Bd 30 n' := Nat.lt_of_le_of_lt (show n'.natAbs ≤ 1000000000 by omega) (by decide)
      clean_wf
      rw [e2]
      refine ⟨n', lq, rfl, k0, by omega, hq, ?_⟩
      intro H2 M gs s2 nM hM gnd gpw gmem glen
      have hD0 := s2 _ _ ht
      have nD : Hw tn = none := nn
      have dM : M ≠ tn := (ne_of_none ht nM).symm
      have smD : Same Hw H2 := sn.trans s2
      have s0w := s0.trans sw
      clear nM sP ht nn sn s2 hq
      generalize tn = D at *
      refine R.refs (S := SqL K _) (xs := gs.map V.int) (SqL.of hM) ?_
      refine for_list (K := K) (a := M) (xs := gs.map V.int) (fun i σ H' => ∃ (x7 x8 x9 : Option V) (ys : List V) (ts : List Tr) (cs : List (Int × Fm)), σ = [some (.ref af), some (.int n), some (.int g), some (.ref tP), some (.int d), some (.ref aw), some (.ref D), x7, x8, x9] ∧ Kp D H2 H' ∧ Same Hw H' ∧ H' D = some (.lst ys) ∧ Pd H' ys (ts.map pT) ∧ CsI d n' (gs.take i) cs ∧ TrI (A, B, C) d n' cs ts)
        ⟨_, _, _, [], [], [], rfl, Kp.refl, smD, hD0, .nil, CsI.nil d n', TrI.nil _ _ _⟩ (fun i σ H' hi hPv => ?_) (fun i x σ H' hx hPv => ?_) (fun σ H' hPv => ?_)
      · obtain ⟨x7, x8, x9, ys, ts, cs, rfl, kp, sm, hD, pd, ci, ti⟩ := hPv
        exact SqL.of (kp _ _ dM hM)
      · obtain ⟨x7, x8, x9, ys, ts, cs, rfl, kp, sm, hD, pd, ci, ti⟩ := hPv
        rw [List.getElem?_map] at hx
        cases hn : gs[i]? with
        | none =>
          rw [hn] at hx
          cases hx
        | some s =>
          rw [hn] at hx
          cases hx
          obtain ⟨sp, k, hk⟩ := (gmem s).mp (List.mem_of_getElem? hn)
          obtain ⟨lf, hf⟩ := krt s k sp hk
          have aa : s * s ≠ 0 := Int.mul_ne_zero (by omega) (by omega)
          have ek : n'.fdiv (s * s) = k := by rw [hk]; exact Int.mul_fdiv_cancel_left _ aa
          have k1 : k ≠ 0 := fun z => k0 (by rw [hk, z, Int.mul_zero])
          have kn : k.natAbs ≤ n'.natAbs := by
            rw [hk, Int.natAbs_mul]
            have : 0 < (s * s).natAbs := by omega
            exact Nat.le_mul_of_pos_left _ this
          have sn9 : s.natAbs ≤ n'.natAbs := by
            rw [hk, Int.natAbs_mul, Int.natAbs_mul]
            have h1 : 0 < k.natAbs := by omega
            have h2 : 0 < s.natAbs := by omega
            exact Nat.le_trans (Nat.le_mul_of_pos_left _ h2) (Nat.le_mul_of_pos_right _ h1)
          have bs : Bd 20 s := Nat.lt_of_le_of_lt (show s.natAbs ≤ 1000000 by omega) (by decide)
          have tk : gs.take (i + 1) = gs.take i ++ [s] := by
            rw [List.take_add_one, hn]
            rfl
          have sni : s ∉ gs.take i := fun hm => by
            have nd2 : (gs.take i ++ [s]).Nodup := by
              rw [← tk]
              exact gnd.sublist (List.take_sublist _ _)
            exact (List.nodup_append.mp nd2).2.2 s hm s (List.mem_singleton.mpr rfl) rfl
          have cl0 := ci.2.2
          rw [tk]
          clean_wf
          rw [e2, ek]
          refine ⟨d, k, lf, rfl, k1, by omega, bd, hf, ?_⟩
          intro H3 R1 y3 rs s3 n3 h3 t3 rmem rpw rlen
          have hD3 := s3 _ _ hD
          have pd3 := pd.same s3
          have smD3 := sm.trans s3
          have kp3 := kp.trans (same_kp s3)
          have dR : R1 ≠ D := (ne_of_none hD n3).symm
          have rnd : rs.Nodup := rpw.imp fun h z => by rw [z] at h; omega
          have l3 := t3.len
          rw [List.length_map] at l3
          clear n3 s3 kp sm hD pd
          refine R.refs (S := SqL K _) (xs := y3) (SqL.of h3) ?_
          refine for_list (K := K) (a := R1) (xs := y3) (fun j σ H' => ∃ (x8 x9 : Option V) (ys : List V) (ts : List Tr), σ = [some (.ref af), some (.int n), some (.int g), some (.ref tP), some (.int d), some (.ref aw), some (.ref D), some (.int s), x8, x9] ∧ Kp D H3 H' ∧ Same Hw H' ∧ H' D = some (.lst ys) ∧ Pd H' ys (ts.map pT) ∧ TrI (A, B, C) d n' (cs ++ (rs.take j).map fun h => (s, h)) ts)
            ⟨_, _, ys, ts, rfl, Kp.refl, smD3, hD3, pd3, by rw [List.take_zero, List.map_nil, List.append_nil]; exact ti⟩ (fun j σ H' hj hPw => ?_) (fun j x σ H' hx hPw => ?_) (fun σ H' hPw => ?_)
          · obtain ⟨x8, x9, ys, ts, rfl, kp, sm, hD, pd, ti⟩ := hPw
            exact SqL.of (kp _ _ dR h3)
          · obtain ⟨x8, x9, ys, ts, rfl, kp, sm, hD, pd, ti⟩ := hPw
            obtain ⟨ax, th, rfl, hth, st⟩ := t3.at hx
            rw [List.getElem?_map] at hth
            cases hr : rs[j]? with
            | none =>
              rw [hr] at hth
              cases hth
            | some h =>
              rw [hr] at hth
              cases hth
              have R9 := (rmem h).mp (List.mem_of_getElem? hr)
              have tk2 : rs.take (j + 1) = rs.take j ++ [h] := by
                rw [List.take_add_one, hr]
                rfl
              have h0 : h.1 ≠ 0 := by rw [R9.1]; exact k1
              have Nh : Ns h := ns_same N (R9.2.2.2.trans fd.symm) h0
              have cE : cs ++ (rs.take (j + 1)).map (fun h => (s, h)) = (cs ++ (rs.take j).map fun h => (s, h)) ++ [(s, h)] := by
                rw [tk2, List.map_append, ← List.append_assoc]
                rfl
              have tl0 := ti.len
              have yl := pd.len
              rw [List.length_map] at yl
              have yl2 : ys.length ≤ 16000000 := by
                rw [List.length_append, List.length_map, List.length_take] at tl0
                rw [List.length_take] at cl0
                have := Nat.mul_le_mul_right (2 * n'.natAbs) (show min i gs.length ≤ 20 by omega)
                omega
              have st2 := kp_seqTL kp hD3 st
              have haw2 := sm _ _ haw
              have dl2 := dl.same sm
              have Sh : SmG h := rt_small R9 k1 (by omega) (by have := N.dc; rw [← fd]; exact this)
              clean_wf
              refine uChangeByWays rfl haw2 dl2 wy st2 N Nh Sh ?_ ?_
              · intro H5 t m s5 dm em bm sM
                clean_wf
                refine ⟨rfl, _, rfl, ?_⟩
                rw [decide_eq_false (show ¬ V.ref t = V.non from fun z => by cases z)]
                refine wayT (show (!false) = true from rfl) ?_
                obtain ⟨m1, m2, m3, m4⟩ := m
                obtain ⟨y1, y2, y3, y4⟩ := bm
                have sM : SqT K H5 t [.int m1, .int m2, .int m3, .int m4] := sM
                have hD5 := s5 _ _ hD
                have pd5 := pd.same s5
                clean_wf
                have sall : Same H5 HN := by array_mem_dec
                have hDN := sall _ _ hD5
                refine R.app2 hDN yl2 (fun H6 e6 h6 => ?_)
                have gd : Good (A, B, C) d n' (s, h, (m1, m2, m3, m4)) := ⟨sp, ⟨k, hk, R9⟩, dm, em⟩
                have s5a := s5.trans sall
                rw [cE]
                refine ⟨_, _, ys ++ [.ref tn], ts ++ [(s, h, (m1, m2, m3, m4))], rfl, ?_, ?_, h6, ?_, ti.yes gd ⟨y1, y2, y3, y4⟩⟩
                · rw [e6]
                  exact (kp.trans (same_kp s5a)).trans (frm_kp fun b hb => upd_ne hb)
                · rw [e6]
                  exact same_mut (sm.trans s5a) nD
                · rw [e6, List.map_append]
                  refine ((pd5.same sall).off hDN).snoc ?_
                  rw [upd_ne (ne_of ht hDN (by intro z; cases z))]
                  exact ht
              · intro H5 s5 no
                clean_wf
                refine ⟨rfl, _, rfl, ?_⟩
                rw [decide_eq_true (show V.non = V.non from rfl)]
                refine wayF (fun z => Bool.false_ne_true z) ?_
                clean_wf
                rw [cE]
                exact ⟨_, _, ys, ts, rfl, kp.trans (same_kp s5), sm.trans s5, s5 _ _ hD, pd.same s5, ti.no no⟩
          · obtain ⟨x8, x9, ys, ts, rfl, kp, sm, hD, pd, ti⟩ := hPw
            rw [l3, List.take_length] at ti
            exact ⟨_, _, _, ys, ts, _, rfl, kp3.trans kp, sm, hD, pd, ci.next sp k0 sni hk rmem rnd rlen, ti⟩
      · obtain ⟨x7, x8, x9, ys, ts, cs, rfl, kp, sm, hD, pd, ci, ti⟩ := hPv
        rw [List.length_map, List.take_length] at ci
        clean_wf
        have fp := (fps_end (f := (A, B, C)) k0 fd ci ti gmem).sc g9
        rw [← hn'] at fp
        refine kk H' D ys (ts.map pT) (s0w.trans sm) (Same.free s0w nD) hD pd fp (fun p hp => ?_) ?_
        · obtain ⟨t, ht, rfl⟩ := List.mem_map.mp hp
          exact pT_bd (ti.good t ht).1 (ti.good t ht).2 k0 kb
        · rw [List.length_map]
          have l1 := ti.len
          have l2 := ci.2.2
          have l3 := Nat.mul_le_mul_right (2 * n'.natAbs) glen
          have l4 : n'.natAbs ≤ n.natAbs := by
            rw [hn', Int.natAbs_mul]
            exact Nat.le_mul_of_pos_left _ (by omega)
          omega
    · have e1 : ¬ n.fmod g = 0 := fun z => dv (Int.dvd_of_emod_eq_zero (by rw [← Int.fmod_eq_emod_of_nonneg _ (by omega)]; exact z))
      rw [decide_eq_false e1]
      refine wayT (show (!false) = true from rfl) ?_
      clean_wf
      exact kk _ tn [] [] sn nn ht .nil (fps_nil dv) (fun p hp => absurd hp List.not_mem_nil) (Nat.zero_le _)
def OrQ (H : Hp) (f : Fm) (n : Int) (Q : VK) : Prop := ∀ (H' : Hp) (D : Addr) (ws : List V) (qs : List (Int × Int)), Same H H' → H D = none → H' D = some (.lst ws) → Pd H' ws qs → qs.Pairwise ltp → (∀ v, v ∈ qs ↔ vF f v = n) → qs.length ≤ 240 * n.natAbs → Q (.ref D) H'
def spDefiniteOrbits (K : PySem.W.Frag) : Sp := fun vs H Q _ => ∃ (af l : Addr) (ys : List V) (pts : List (Int × Int)) (f0 : Fm) (g n : Int), vs = [.ref af, .ref l] ∧ SqT K H af ((fL (scF g f0)).map V.int) ∧ FrOk f0 g n ∧ dcF f0 < 0 ∧ H l = some (.lst ys) ∧ Pd H ys pts ∧ FPs (scF g f0) n pts ∧ (∀ p ∈ pts, Bd 54300 p.1 ∧ Bd 54300 p.2) ∧ pts.length ≤ 40 * n.natAbs ∧ n.natAbs ≤ 10000 ∧ OrQ H (scF g f0) n Q
theorem uDefiniteOrbits {K : PySem.W.Frag} {H : Hp} {Q : VK} {E : XK} {vs : List V} {af l : Addr} {ys : List V} {pts : List (Int × Int)} {f0 : Fm} {g n : Int} (e : vs = [.ref af, .ref l]) (hs : SqT K H af ((fL (scF g f0)).map V.int)) (ok : FrOk f0 g n) (d0 : dcF f0 < 0) (hl : H l = some (.lst ys)) (pd : Pd H ys pts) (F : FPs (scF g f0) n pts) (pb : ∀ p ∈ pts, Bd 54300 p.1 ∧ Bd 54300 p.2) (ln : pts.length ≤ 40 * n.natAbs) (nb : n.natAbs ≤ 10000)
    (kk : OrQ H (scF g f0) n Q) : spDefiniteOrbits K vs H Q E := ⟨af, l, ys, pts, f0, g, n, e, hs, ok, d0, hl, pd, F, pb, ln, nb, kk⟩
theorem okDefiniteOrbits (T : Txt K mg fa fd) : FnOk P w K mg base CX0 4 (fa 53) (fd 53) ["form", "firsts"] (spDefiniteOrbits K) := by
  refine T.F_definite_orbits.ok scDefiniteOrbits (fun vs H Q E h => ?_) (fun cdv A outer s H vs Q E hr h => ?_)
  · obtain ⟨af, l, ys, pts, f0, g, n, rfl, hs, ok, d0, hl, pd, F, pb, ln, nb, kk⟩ := h
    rfl
  · obtain ⟨af, l, ys, pts, f0, g, n, rfl, hs, ok, d0, hl, pd, F, pb, ln, nb, kk⟩ := h
    refine ⟨_, (pss_cons (ps_set (i := 2) scDefiniteOrbits.nd rfl (Or.inr rfl) (pe_call (sp := spSelfChanges K) (okSelfChanges T) hr (by rfl) T.G_self_changes T.F_self_changes.kp T.B_self_changes .nil pass0 (pa_cons (pv 0) pa_nil)))
      (pss_one (ps_ret (pe_callB (srtPQ K) (by rfl) T.m_sorted (by decide +kernel) (pa_cons (pe_lc2 (own := [("point", 3), ("m", 4)]) (vs1 := [4]) (g := gName 3) (g1 := gName 4) (tt := tYes) (tt1 := tYes) rfl scDefiniteOrbits.nd (piL K (pv 1)) (blkOk_by (own := [("point", 3), ("m", 4)]) (N := ["form", "firsts", "changes", "point", "m"]) (sc := defScope sDefiniteOrbits) (by decide +kernel)) (by decide) (fun _ _ _ _ _ => (pg_name (i := 3) scDefiniteOrbits.nd rfl (Or.inl rfl))) (fun _ _ _ _ _ => pts_nil) (fun _ _ _ _ _ => (piL K (pv 2))) (fun _ _ _ _ _ => (pg_name (i := 4) scDefiniteOrbits.nd rfl (Or.inl rfl))) (fun _ _ _ _ _ => pts_nil) (fun _ _ _ _ _ => (pe_call (sp := spApply K) (okApply T) (hr.mono (by decide)) (by rfl) T.G_apply T.F_apply.kp T.B_apply .nil pass0 (pa_cons (pv 4) (pa_cons (pv 3) pa_nil))))) pa_nil))))), ?_⟩
    obtain ⟨A, B, C⟩ := f0
    obtain ⟨g0, g1, gl, p1, N, b1, b2, b3, n0, nb9, num⟩ := ok
    have hs : SqT K H af [.int (g * A), .int (g * B), .int (g * C)] := hs
    have gl : gL [g * A, g * B, g * C] = g := gl
    have bA : Bd 20 A := Nat.lt_of_le_of_lt (show A.natAbs ≤ 1000000 from b1) (by decide)
    have bB : Bd 20 B := Nat.lt_of_le_of_lt (show B.natAbs ≤ 1000000 from b2) (by decide)
    have bC : Bd 20 C := Nat.lt_of_le_of_lt (show C.natAbs ≤ 1000000 from b3) (by decide)
    have bg : Bd 20 g := Nat.lt_of_le_of_lt (show g.natAbs ≤ 1000000 by omega) (by decide)
    have A0 : A ≠ 0 := N.a0
    have gm : ∀ m, m ∈ gsF (A, B, C) ↔ Fx (scF g (A, B, C)) m := fun m => (gs_mem p1 d0 m).trans (fx_sc (by omega)).symm
    have gn := gs_nodup (f := (A, B, C)) A0
    have glen := gs_len (A, B, C)
    have ond := orb_nodup (n := n) gm gn F.one F.fre
    have omem := orb_mem gm F
    have gb := gs_bd (f := (A, B, C)) b1 b2 b3
    clean_wf
    refine ⟨af, g * A, g * B, g * C, rfl, hs, by rw [gl]; omega, by rw [gl]; exact bg.mono (by decide), (bg.mul bA).mono (by decide), (bg.mul bB).mono (by decide), (bg.mul bC).mono (by decide), ?_⟩
    intro H1 l1 zs s1 nl hl1 tp
    rw [selfL_gs g0 gl] at tp
    generalize gsF (A, B, C) = ms at *
    have hl2 := s1 _ _ hl
    have pd2 := pd.same s1
    have plen := pd2.len
    have tlen := tp.len
    rw [List.length_map] at tlen
    clean_wf
    refine ⟨_, rfl, l, rfl, ⟨_, SqL.of hl2⟩, fun D2 nD2 => ?_⟩
    refine out_list (K := K) (a := l) (xs := ys) (fun i H3 => Same H1 H3 ∧ ∃ ws, H3 D2 = some (.lst ws) ∧ Pd H3 ws (orbL ms (pts.take i))) ⟨same_upd nD2, [], upd_same, .nil⟩ (fun i H3 hi ⟨a1, _⟩ => SqL.of (a1 _ _ hl2)) (fun i x H3 hx ⟨a1, ws, a2, a3⟩ => ?_) (fun H3 ⟨a1, ws, a2, a3⟩ => ?_)
    · obtain ⟨px, pp, rfl, hpp, hpt⟩ := pd2.atx hx
      have tk : pts.take (i + 1) = pts.take i ++ [pp] := by
        rw [List.take_add_one, hpp]
        rfl
      have il : i < pts.length := (List.getElem?_eq_some_iff.mp hpp).1
      obtain ⟨pb1, pb2⟩ := pb pp (List.mem_of_getElem? hpp)
      have ol : (orbL ms (pts.take i)).length ≤ 2400000 := by
        rw [orb_len, List.length_take]
        have := Nat.mul_le_mul (show min i pts.length ≤ 400000 by omega) glen
        omega
      refine ⟨rfl, ?_⟩
      dsimp only [tYes]
      rw [if_pos rfl]
      refine ⟨_, rfl, l1, rfl, ⟨_, SqL.of (a1 _ _ hl1)⟩, ?_⟩
      refine out_list (K := K) (a := l1) (xs := zs) (fun j H4 => Same H1 H4 ∧ ∃ ws, H4 D2 = some (.lst ws) ∧ Pd H4 ws (orbL ms (pts.take i) ++ (ms.take j).map fun m => apM m pp)) ⟨a1, ws, a2, by rw [List.take_zero, List.map_nil, List.append_nil]; exact a3⟩ (fun j H4 hj ⟨c1, _⟩ => SqL.of (c1 _ _ hl1)) (fun j x H4 hx ⟨c1, ws, c2, c3⟩ => ?_) (fun H4 ⟨c1, ws, c2, c3⟩ => ⟨c1, ws, c2, ?_⟩)
      · obtain ⟨mx9, tm, rfl, hmm, smt⟩ := tp.at hx
        rw [List.getElem?_map] at hmm
        cases hm9 : ms[j]? with
        | none =>
          rw [hm9] at hmm
          cases hmm
        | some m =>
          rw [hm9] at hmm
          cases hmm
          have tk2 : ms.take (j + 1) = ms.take j ++ [m] := by
            rw [List.take_add_one, hm9]
            rfl
          have jl : j < ms.length := (List.getElem?_eq_some_iff.mp hm9).1
          obtain ⟨y1, y2, y3, y4⟩ := gb m (List.mem_of_getElem? hm9)
          obtain ⟨m1, m2, m3, m4⟩ := m
          obtain ⟨u1, u2⟩ := pp
          have smt : SqT K H4 mx9 [.int m1, .int m2, .int m3, .int m4] := same_seqT c1 smt
          have hpt : SqT K H4 px [.int u1, .int u2] := SqT.of (c1 _ _ hpt)
          refine ⟨rfl, ?_⟩
          dsimp only [tYes]
          rw [if_pos rfl]
          clean_wf
          have hw := sn _ _ c2
          refine ⟨ws, hw, ?_, ?_⟩
          · have l9 := c3.len
            rw [List.length_append, List.length_map, List.length_take] at l9
            have : (4000000 : Nat) < sizeLine := by decide
            omega
          · have e5 : orbL ms (pts.take i) ++ (ms.take (j + 1)).map (fun m => apM m (u1, u2)) = (orbL ms (pts.take i) ++ (ms.take j).map fun m => apM m (u1, u2)) ++ [apM (m1, m2, m3, m4) (u1, u2)] := by
              rw [tk2, List.map_append, List.append_assoc]
              rfl
            rw [e5]
            refine ⟨same_mut (c1.trans sn) nD2, ws ++ [.ref tn], upd_same, ((c3.same sn).off hw).snoc ?_⟩
            rw [upd_ne (ne_of ht hw (by intro z; cases z))]
            exact ht
      · rw [tlen, List.take_length] at c3
        have e5 : orbL ms (pts.take (i + 1)) = orbL ms (pts.take i) ++ ms.map fun m => apM m pp := by
          unfold orbL
          rw [tk, List.flatMap_append, List.flatMap_cons, List.flatMap_nil, List.append_nil]
        rw [e5]
        exact c3
    · rw [plen, List.take_length] at a3
      clean_wf
      refine R.srtP (SqL.of a2) a3 ond (fun ws2 qs H5 p9 pd9 pm pw s5 n5 h5 => ?_)
      have s15 := s1.trans a1
      refine kk H5 p9 ws2 qs (s15.trans s5) (Same.free s15 n5) h5 pd9 pw (fun v => (pm.mem_iff).trans (omem v)) ?_
      rw [pm.length_eq, orb_len]
      have := Nat.mul_le_mul ln glen
      omega
def spDefinitePoints (K : PySem.W.Frag) : Sp := fun vs H Q _ => ∃ (af : Addr) (f0 : Fm) (g n : Int), vs = [.ref af, .int n] ∧ SqT K H af ((fL (scF g f0)).map V.int) ∧ FrOk f0 g n ∧ dcF f0 < 0 ∧ n.natAbs ≤ 10000 ∧ OrQ H (scF g f0) n Q
theorem uDefinitePoints {K : PySem.W.Frag} {H : Hp} {Q : VK} {E : XK} {vs : List V} {af : Addr} {f0 : Fm} {g n : Int} (e : vs = [.ref af, .int n]) (hs : SqT K H af ((fL (scF g f0)).map V.int)) (ok : FrOk f0 g n) (d0 : dcF f0 < 0) (nb : n.natAbs ≤ 10000) (kk : OrQ H (scF g f0) n Q) : spDefinitePoints K vs H Q E := ⟨af, f0, g, n, e, hs, ok, d0, nb, kk⟩
theorem okDefinitePoints (T : Txt K mg fa fd) : FnOk P w K mg base CX0 13 (fa 52) (fd 52) ["form", "n"] (spDefinitePoints K) := by
  refine T.F_definite_points.ok scDefinitePoints (fun vs H Q E h => ?_) (fun cdv A outer s H vs Q E hr h => ?_)
  · obtain ⟨af, f0, g, n, rfl, hs, ok, d0, nb, kk⟩ := h
    rfl
  · obtain ⟨af, f0, g, n, rfl, hs, ok, d0, nb, kk⟩ := h
    refine ⟨_, (pss_one (ps_ret (pe_call (sp := spDefiniteOrbits K) (okDefiniteOrbits T) (hr.mono (by decide)) (by rfl) T.G_definite_orbits T.F_definite_orbits.kp T.B_definite_orbits .nil pass0 (pa_cons (pv 0) (pa_cons (pe_call (sp := spFirstPoints K) (okFirstPoints T) hr (by rfl) T.G_first_points T.F_first_points.kp T.B_first_points .nil pass0 (pa_cons (pv 0) (pa_cons (pv 1) pa_nil))) pa_nil))))), ?_⟩
    clean_wf
    refine uFirstPoints rfl hs ok ?_
    intro H1 D ys pts s1 nD hD pd F pb ln
    have hs1 := same_seqT s1 hs
    clean_wf
    refine uDefiniteOrbits rfl hs1 ok d0 hD pd F pb ln nb ?_
    intro H2 D2 ws qs s2 nD2 hD2 pd2 pw mem ql
    clean_wf
    exact kk H2 D2 ws qs (s1.trans s2) (Same.free s1 nD2) hD2 pd2 pw mem ql
def spIsRepresented (K : PySem.W.Frag) : Sp := fun vs H Q _ => ∃ (af : Addr) (f0 : Fm) (g n : Int), vs = [.ref af, .int n] ∧ SqT K H af ((fL (scF g f0)).map V.int) ∧ FrOk f0 g n ∧
  ∀ (H' : Hp) (b : Bool), Same H H' → (b = true ↔ ∃ v, vF (scF g f0) v = n) → Q (.bl b) H'
theorem uIsRepresented {K : PySem.W.Frag} {H : Hp} {Q : VK} {E : XK} {vs : List V} {af : Addr} {f0 : Fm} {g n : Int} (e : vs = [.ref af, .int n]) (hs : SqT K H af ((fL (scF g f0)).map V.int)) (ok : FrOk f0 g n)
    (kk : ∀ (H' : Hp) (b : Bool), Same H H' → (b = true ↔ ∃ v, vF (scF g f0) v = n) → Q (.bl b) H') : spIsRepresented K vs H Q E := ⟨af, f0, g, n, e, hs, ok, kk⟩
theorem okIsRepresented (T : Txt K mg fa fd) : FnOk P w K mg base CX0 13 (fa 54) (fd 54) ["form", "n"] (spIsRepresented K) := by
  refine T.F_is_represented.ok scIsRepresented (fun vs H Q E h => ?_) (fun cdv A outer s H vs Q E hr h => ?_)
  · obtain ⟨af, f0, g, n, rfl, hs, ok, kk⟩ := h
    rfl
  · obtain ⟨af, f0, g, n, rfl, hs, ok, kk⟩ := h
    refine ⟨_, (pss_cons (ps_if (pt_cmpR op_eq (pe_call (sp := spKind K) (okKind T) (hr.mono (by decide)) (by rfl) T.G_kind T.F_kind.kp T.B_kind .nil pass0 (pa_cons (pv 0) pa_nil)) pe_str (nomark _))
      (pss_one ps_never)
      pss_nil)
      (pss_one (ps_ret (pe_cmpR (neDQ K hr.units) (pe_call (sp := spFirstPoints K) (okFirstPoints T) hr (by rfl) T.G_first_points T.F_first_points.kp T.B_first_points .nil pass0 (pa_cons (pv 0) (pa_cons (pv 1) pa_nil))) (pe_lst pa_nil) (nomark _))))), ?_⟩
    obtain ⟨A, B, C⟩ := f0
    have ok9 := ok
    obtain ⟨g0, g1, gl, p1, N, b1, b2, b3, n0, nb9, num⟩ := ok
    have hs2 : SqT K H af [.int (g * A), .int (g * B), .int (g * C)] := hs
    have bA : Bd 20 A := Nat.lt_of_le_of_lt (show A.natAbs ≤ 1000000 from b1) (by decide)
    have bB : Bd 20 B := Nat.lt_of_le_of_lt (show B.natAbs ≤ 1000000 from b2) (by decide)
    have bC : Bd 20 C := Nat.lt_of_le_of_lt (show C.natAbs ≤ 1000000 from b3) (by decide)
    have bg : Bd 20 g := Nat.lt_of_le_of_lt (show g.natAbs ≤ 1000000 by omega) (by decide)
    have bgA : Bd 3000 (g * A) := (bg.mul bA).mono (by decide)
    have bgB : Bd 3000 (g * B) := (bg.mul bB).mono (by decide)
    have bgC : Bd 3000 (g * C) := (bg.mul bC).mono (by decide)
    have hk := kind_sc (f := (A, B, C)) g0 N
    have hk : ¬ kindS (dsc (g * A) (g * B) (g * C)) = "split" := hk
    clean_wf
    refine wayF (fun z => hk (by injection z)) ?_
    clean_wf
    refine uFirstPoints rfl hs ok9 ?_
    intro H1 D ys pts s1 nD hD pd F pb ln
    clean_wf
    refine R.neTps (ts := pts.map pL) (us := []) (SqL.of (sn _ _ hD)) (pd.same sn).tps (SqL.of ht) .nil ?_
    refine kk _ _ (s1.trans sn) ?_
    constructor
    · intro h
      cases pts with
      | nil => cases h
      | cons p pts => exact ⟨p, F.val p List.mem_cons_self⟩
    · rintro ⟨v, e⟩
      obtain ⟨p, hp, _⟩ := F.all v e
      cases pts with
      | nil => cases hp
      | cons p pts => rfl
def spLawCell (K : PySem.W.Frag) : Sp := fun vs H Q _ => ∃ (l : Addr) (ns : List Int) (j : Nat), vs = [.ref l, .int (j : Int)] ∧ SqL K H l (ns.map V.int) ∧ ∀ v : Int, Q (.int v) H
theorem okLawCell (T : Txt K mg fa fd) : FnOk P w K mg base CX0 1 (fa 55) (fd 55) ["script", "k"] (spLawCell K) := by
  refine T.F__law_cell.ok scLawCell (fun vs H Q E h => ?_) (fun cdv A outer s H vs Q E hr h => ?_)
  · obtain ⟨l, ns, j, rfl, hS, q⟩ := h
    rfl
  · obtain ⟨l, ns, j, rfl, hS, q⟩ := h
    refine ⟨_, (pss_cons (ps_if (pt_cmp (pc_lt (pv 1) (pe_callB (lenQ K) (by rfl) T.m_len (by decide +kernel) (pa_cons (pv 0) pa_nil))))
      (pss_one (ps_ret (pe_ix (ixL K) (pv 0) (pv 1) (fun _ _ => rfl))))
      pss_nil)
      (pss_one (ps_ret pe_int))), ?_⟩
    refine ⟨_, rfl, _, rfl, _, _, rfl, .inl hS, _, _, rfl, rfl, _, rfl, ite2 (fun e => ?_) (fun e => ?_)⟩
    · have e1 : (j : Int) < ((ns.map V.int).length : Int) := of_decide_eq_true e
      have hj : j < ns.length := by
        rw [List.length_map] at e1
        omega
      exact ⟨_, rfl, _, rfl, _, _, _, _, rfl, rfl, hS, atI_nat (by rw [List.getElem?_map, List.getElem?_eq_getElem hj]; rfl), q _⟩
    · exact q 0
def spLawNumbers (K : PySem.W.Frag) : Sp := fun vs H Q _ => ∃ (c : Int) (m : Nat), vs = [.int c, .int (m : Int)] ∧ m ≤ 100 ∧
  ∀ H' p (ns : List Int), Same H H' → H p = none → H' p = some (.lst (ns.map V.int)) → ns.length = m → (∀ n ∈ ns, 0 ≤ n ∧ n < 1000) → Q (.ref p) H'
theorem okLawNumbers (T : Txt K mg fa fd) : FnOk P w K mg base CX0 1 (fa 56) (fd 56) ["cell", "many"] (spLawNumbers K) := by
  refine T.F__law_numbers.ok scLawNumbers (fun vs H Q E h => ?_) (fun cdv A outer s H vs Q E hr h => ?_)
  · obtain ⟨c, m, rfl, hm, q⟩ := h
    rfl
  · obtain ⟨c, m, rfl, hm, q⟩ := h
    refine ⟨_, (pss_cons (ps_set (i := 2) scLawNumbers.nd rfl (Or.inl rfl) (pe_callB (absQ K) (by rfl) T.m_abs (by decide +kernel) (pa_cons (pv 0) pa_nil)))
      (pss_cons (ps_set (i := 3) scLawNumbers.nd rfl (Or.inl rfl) (pv 2))
      (pss_cons (ps_set (i := 4) scLawNumbers.nd rfl (Or.inl rfl) (pe_lst pa_nil))
      (pss_cons (ps_for PassesOwn.never rfl (pi_range1 (by rfl) T.m_range (pa_cons (pv 1) pa_nil)) (pg_name (i := 5) scLawNumbers.nd rfl (Or.inl rfl))
      (pss_one (ps_if (PW.pt (pw_and (pt_cmp (pc_ge (pv 3) (pe_op op_pow pe_int pe_int))) (pw_and1 (pt_cmp (pc_gt (pv 2) pe_int)))))
        (pss_cons (ps_expr (pe_bm PySem.F.plainAttrs_list PySem.F.slot_list_append PySem.F.type_list_append mt_append (pv 4) (pa_cons (pe_op op_mod (pe_callTy (intQ K) (by rfl) T.m_int (by decide +kernel) (pa_cons (pv 2) pa_nil)) pe_int) pa_nil)))
          (pss_one (ps_set (i := 2) scLawNumbers.nd rfl (Or.inl rfl) (pe_op op_fdiv (pv 2) pe_int))))
        (pss_cons (ps_set (i := 6) scLawNumbers.nd rfl (Or.inl rfl) (pe_op op_mod (pe_callTy (intQ K) (by rfl) T.m_int (by decide +kernel) (pa_cons (pe_op op_add (pe_op op_add (pe_op op_mul (pv 3) pe_int) (pe_op op_mul (pv 5) pe_int)) pe_int) pa_nil)) pe_int))
          (pss_cons (ps_set (i := 6) scLawNumbers.nd rfl (Or.inl rfl) (pe_op op_mod (pe_callTy (intQ K) (by rfl) T.m_int (by decide +kernel) (pa_cons (pe_op op_add (pe_op op_add (pe_op op_mul (pv 6) (pv 6)) (pe_op op_mul pe_int (pv 5))) pe_int) pa_nil)) pe_int))
          (pss_one (ps_expr (pe_bm PySem.F.plainAttrs_list PySem.F.slot_list_append PySem.F.type_list_append mt_append (pv 4) (pa_cons (pe_op op_mod (pe_callTy (intQ K) (by rfl) T.m_int (by decide +kernel) (pa_cons (pe_op op_fdiv (pv 6) pe_int) pa_nil)) pe_int) pa_nil)))))))))
      (pss_one (ps_ret (pv 4))))))), ?_⟩
    refine ⟨_, rfl, _, rfl, _, rfl, Nat.zero_le _, fun o no => ?_⟩
    refine ⟨_, rfl, _, rfl, by omega, by omega, for_range (lo := 0) (n := m) (fun i σ H' => ∃ (rest span : Int) (x5 x6 : Option V) (ns : List Int), σ = [some (.int c), some (.int (m : Int)), some (.int rest), some (.int span), some (.ref o), x5, x6] ∧ Same H H' ∧ H' o = some (.lst (ns.map V.int)) ∧ ns.length = i ∧ ∀ n ∈ ns, 0 ≤ n ∧ n < 1000)
      ⟨_, _, _, _, [], rfl, same_upd no, upd_same, rfl, fun n h => nomatch h⟩ (fun i σ H' hi ⟨rest, span, x5, x6, ns, hσ, hs, ho, hl, hb⟩ => ?_) (fun σ H' ⟨rest, span, x5, x6, ns, hσ, hs, ho, hl, hb⟩ => ?_)⟩
    · subst hσ
      have sz : (ns.map V.int).length < sizeLine := by
        rw [List.length_map]
        exact small1000 (by omega)
      have app : ∀ r : Int, 0 ≤ r → r < 1000 → (upd H' o (.lst (ns.map V.int ++ [V.int r]))) o = some (.lst ((ns ++ [r]).map V.int)) ∧ (ns ++ [r]).length = i + 1 ∧ ∀ n ∈ ns ++ [r], 0 ≤ n ∧ n < 1000 := fun r h0 h1 => by
        refine ⟨by rw [upd_same, List.map_append]; rfl, by rw [List.length_append, hl]; rfl, fun n hn => ?_⟩
        rcases List.mem_append.mp hn with hn | hn
        · exact hb n hn
        · rw [List.mem_singleton.mp hn]
          exact ⟨h0, h1⟩
      refine ⟨_, rfl, _, _, rfl, rfl, ⟨by decide, by decide, by decide⟩, _, _, rfl, rfl, _, rfl, ?_⟩
      have tl : ∀ (D : Ends) (rest' : Int) (x5' x6' : Option V) (r : Int), 0 ≤ r → r < 1000 → (∀ σ' H2, (∃ (rest span : Int) (x5 x6 : Option V) (ns : List Int), σ' = [some (.int c), some (.int (m : Int)), some (.int rest), some (.int span), some (.ref o), x5, x6] ∧ Same H H2 ∧ H2 o = some (.lst (ns.map V.int)) ∧ ns.length = i + 1 ∧ ∀ n ∈ ns, 0 ≤ n ∧ n < 1000) → D.nx σ' H2) → D.nx [some (.int c), some (.int (m : Int)), some (.int rest'), some (.int span), some (.ref o), x5', x6'] (upd H' o (.lst (ns.map V.int ++ [V.int r]))) := fun D rest' x5' x6' r h0 h1 k => by
        obtain ⟨a1, a2, a3⟩ := app r h0 h1
        exact k _ _ ⟨rest', span, x5', x6', _, rfl, same_mut hs no, a1, a2, a3⟩
      have m1 : ∀ z : Int, 0 ≤ z % 1000 ∧ z % 1000 < 1000 := fun z => by omega
      have m2 : ∀ z : Int, 0 ≤ z % 2147483647 ∧ z % 2147483647 < 2147483647 := fun z => by omega
      refine ite2 (fun e => ?_) (fun e => ?_)
      · refine ⟨_, rfl, _, _, rfl, rfl, _, rfl, ite2 (fun e => ?_) (fun e => ?_)⟩
        · refine ⟨_, rfl, .inl ⟨rfl, _, SqL.of ho⟩, _, rfl, .inl ⟨_, rfl, _, _, rfl, rfl, by show (0 : Int) < 1000; decide, _, _, _, rfl, rfl, ho, sz, ?_⟩⟩
          refine ⟨_, rfl, _, _, rfl, rfl, ⟨by decide, by decide⟩, ?_⟩
          obtain ⟨a1, a2, a3⟩ := app (rest % 1000) (m1 _).1 (m1 _).2
          exact ⟨_, _, _, _, _, rfl, same_mut hs no, a1, a2, a3⟩
        · refine ⟨_, rfl, _, _, rfl, rfl, .inr ⟨by decide, by decide⟩, _, rfl, _, _, rfl, rfl, .inr ⟨by decide, by decide⟩, _, _, rfl, rfl, _, _, rfl, rfl, .inl ⟨_, rfl, _, _, rfl, rfl, by show (0 : Int) < 2147483647; decide, ?_⟩⟩
          refine ⟨_, rfl, _, rfl, _, _, rfl, rfl, .inl ?_, _, rfl, _, _, rfl, rfl, .inl ⟨by decide, by decide⟩, _, _, rfl, rfl, _, _, rfl, rfl, .inl ⟨_, rfl, _, _, rfl, rfl, by show (0 : Int) < 2147483629; decide, ?_⟩⟩
          · have h := m2 (span * 48271 + (0 + (i : Int)) * 69621 + 11)
            omega
          refine ⟨_, rfl, .inl ⟨rfl, _, SqL.of ho⟩, _, rfl, _, _, rfl, rfl, ⟨by decide, by decide⟩, .inl ⟨_, rfl, _, _, rfl, rfl, by show (0 : Int) < 1000; decide, _, _, _, rfl, rfl, ho, sz, ?_⟩⟩
          obtain ⟨a1, a2, a3⟩ := app _ (m1 _).1 (m1 _).2
          exact ⟨_, _, _, _, _, rfl, same_mut hs no, a1, a2, a3⟩
      · refine iteF ?_
        refine ⟨_, rfl, _, _, rfl, rfl, .inr ⟨by decide, by decide⟩, _, rfl, _, _, rfl, rfl, .inr ⟨by decide, by decide⟩, _, _, rfl, rfl, _, _, rfl, rfl, .inl ⟨_, rfl, _, _, rfl, rfl, by show (0 : Int) < 2147483647; decide, ?_⟩⟩
        refine ⟨_, rfl, _, rfl, _, _, rfl, rfl, .inl ?_, _, rfl, _, _, rfl, rfl, .inl ⟨by decide, by decide⟩, _, _, rfl, rfl, _, _, rfl, rfl, .inl ⟨_, rfl, _, _, rfl, rfl, by show (0 : Int) < 2147483629; decide, ?_⟩⟩
        · have h := m2 (span * 48271 + (0 + (i : Int)) * 69621 + 11)
          omega
        refine ⟨_, rfl, .inl ⟨rfl, _, SqL.of ho⟩, _, rfl, _, _, rfl, rfl, ⟨by decide, by decide⟩, .inl ⟨_, rfl, _, _, rfl, rfl, by show (0 : Int) < 1000; decide, _, _, _, rfl, rfl, ho, sz, ?_⟩⟩
        obtain ⟨a1, a2, a3⟩ := app _ (m1 _).1 (m1 _).2
        exact ⟨_, _, _, _, _, rfl, same_mut hs no, a1, a2, a3⟩
    · subst hσ
      exact ⟨_, rfl, q _ _ ns hs no ho hl hb⟩
def spLawState (K : PySem.W.Frag) : Sp := fun vs H Q _ => ∃ (l : Addr) (ns : List Int), vs = [.ref l] ∧ SqL K H l (ns.map V.int) ∧ ∀ H' p a, Same H H' → Dw H' p a 0 → Q (.ref p) H'
theorem okLawState (T : Txt K mg fa fd) : FnOk P w K mg base CX0 2 (fa 57) (fd 57) ["script"] (spLawState K) := by
  refine T.F__law_state.ok scLawState (fun vs H Q E h => ?_) (fun cdv A outer s H vs Q E hr h => ?_)
  · obtain ⟨l, ns, rfl, hS, q⟩ := h
    rfl
  · obtain ⟨l, ns, rfl, hS, q⟩ := h
    refine ⟨_, (pss_cons (ps_set (i := 1) scLawState.nd rfl (Or.inl rfl) (pe_lst pa_nil))
      (pss_cons (ps_for PassesOwn.never rfl (pi_range1 (by rfl) T.m_range (pa_cons pe_int pa_nil)) (pg_name (i := 2) scLawState.nd rfl (Or.inl rfl))
      (pss_one (ps_set (i := 1) scLawState.nd rfl (Or.inl rfl) (pe_op op_cat (pv 1) (pe_call (sp := spLawNumbers K) (okLawNumbers T) hr (by rfl) T.G__law_numbers T.F__law_numbers.kp T.B__law_numbers .nil pass0 (pa_cons (pe_op op_add (pe_callB (absQ K) (by rfl) T.m_abs (by decide +kernel) (pa_cons (pe_call (sp := spLawCell K) (okLawCell T) hr (by rfl) T.G__law_cell T.F__law_cell.kp T.B__law_cell .nil pass0 (pa_cons (pv 0) (pa_cons (pv 2) pa_nil))) pa_nil)) (pe_op op_mul pe_int (pv 2))) (pa_cons pe_int pa_nil)))))))
      (pss_one (ps_ret (pe_lst (pa_cons (pv 1) (pa_cons pe_int pa_nil))))))), ?_⟩
    refine ⟨Nat.zero_le _, fun o no => ?_⟩
    refine ⟨3, rfl, by decide, by decide, for_range (lo := 0) (n := 3) (fun i σ H' => ∃ (o : Addr) (x2 : Option V) (ms : List Int), σ = [some (.ref l), some (.ref o), x2] ∧ Same H H' ∧ H' o = some (.lst (ms.map V.int)) ∧ ms.length = 40 * i ∧ ∀ n ∈ ms, 0 ≤ n ∧ n < 1000)
      ⟨o, none, [], rfl, same_upd no, upd_same, rfl, fun n h => nomatch h⟩ (fun i σ H' hi ⟨o, x2, ms, hσ, hs, ho, hl, hb⟩ => ?_) (fun σ H' ⟨o, x2, ms, hσ, hs, ho, hl, hb⟩ => ?_)⟩
    · subst hσ
      refine ⟨_, rfl, _, rfl, _, rfl, l, ns, i, ?_, hs.seq hS, fun v => ⟨_, rfl, _, rfl, _, _, rfl, rfl, .inl ⟨by decide, by decide⟩, _, _, rfl, rfl, _, 40, rfl, by decide, fun H2 u ks s2 nu hu kl kb => ?_⟩⟩
      · exact congrArg (fun t : Int => [V.ref l, V.int t]) (Int.zero_add _)
      refine ⟨_, _, _, _, rfl, rfl, s2 _ _ ho, hu, ?_, fun w nw => ?_⟩
      · rw [List.length_map, List.length_map]
        exact small200 (by omega)
      refine ⟨w, _, ms ++ ks, rfl, (hs.trans s2).trans (same_upd nw), ?_, ?_, fun n hn => ?_⟩
      · rw [upd_same, List.map_append]
      · rw [List.length_append]
        omega
      · rcases List.mem_append.mp hn with hn | hn
        · exact hb n hn
        · exact kb n hn
    · subst hσ
      refine ⟨_, rfl, by show 2 ≤ sizeLine; decide, fun p np => ?_⟩
      refine q _ p o (hs.trans (same_upd np)) ⟨0, ms, Nat.le_refl 0, ne_of_none ho np, upd_same, ?_, hl, hb⟩
      rw [upd_ne (ne_of_none ho np)]
      exact ho
def spLawNext (_ : PySem.W.Frag) : Sp := fun vs H Q _ => ∃ (p a : Addr) (many : Int) (N : Nat), vs = [.ref p, .int many] ∧ Dw H p a N ∧ N < 1000000000 ∧ 0 < many ∧
  ∀ r H', 0 ≤ r → r < many → Dw H' p a (N + 1) → (∀ b, b ≠ p → H' b = H b) → Q (.int r) H'
theorem uLawNext {K : PySem.W.Frag} {H : Hp} {Q : VK} {E : XK} {vs : List V} {p a : Addr} {N : Nat} {many : Int} (e : vs = [.ref p, .int many]) (d : Dw H p a N) (hN : N < 1000000000) (hm : 0 < many) (q : ∀ r H', 0 ≤ r → r < many → Dw H' p a (N + 1) → Kp p H H' → Q (.int r) H') : spLawNext K vs H Q E :=
  ⟨p, a, many, N, e, d, hN, hm, fun r H' h0 h1 d' f => q r H' h0 h1 d' (frm_kp f)⟩
theorem okLawNext (T : Txt K mg fa fd) : FnOk P w K mg base CX0 1 (fa 58) (fd 58) ["state", "many"] (spLawNext K) := by
  refine T.F__law_next.ok scLawNext (fun vs H Q E h => ?_) (fun cdv A outer s H vs Q E hr h => ?_)
  · obtain ⟨p, a, many, N, rfl, ⟨m, ns, hm, hap, hp, ha, hl, hb⟩, hN, hmany, q⟩ := h
    rfl
  · obtain ⟨p, a, many, N, rfl, ⟨m, ns, hm, hap, hp, ha, hl, hb⟩, hN, hmany, q⟩ := h
    refine ⟨_, (pss_cons (ps_asg (pe_op op_add (pe_ix (ixL K) (pv 0) pe_int (fun _ _ => rfl)) pe_int) (pg_sub (pv 0) pe_int set_list))
      (pss_cons (ps_set (i := 2) scLawNext.nd rfl (Or.inl rfl) (pe_op op_add (pe_ix (ixL K) (pe_ix (ixL K) (pv 0) pe_int (fun _ _ => rfl)) (pe_op op_mod (pe_callTy (intQ K) (by rfl) T.m_int (by decide +kernel) (pa_cons (pe_op op_mul (pe_ix (ixL K) (pv 0) pe_int (fun _ _ => rfl)) pe_int) pa_nil)) (pe_callB (lenQ K) (by rfl) T.m_len (by decide +kernel) (pa_cons (pe_ix (ixL K) (pv 0) pe_int (fun _ _ => rfl)) pa_nil))) (fun _ _ => rfl)) (pe_op op_mul (pe_op op_mul pe_int (pe_ix (ixL K) (pv 0) pe_int (fun _ _ => rfl))) (pe_op op_add pe_int (pe_op op_fdiv (pe_ix (ixL K) (pv 0) pe_int (fun _ _ => rfl)) (pe_callB (lenQ K) (by rfl) T.m_len (by decide +kernel) (pa_cons (pe_ix (ixL K) (pv 0) pe_int (fun _ _ => rfl)) pa_nil)))))))
      (pss_one (ps_ret (pe_op op_mod (pe_callTy (intQ K) (by rfl) T.m_int (by decide +kernel) (pa_cons (pv 2) pa_nil)) (pv 1)))))), ?_⟩
    have eS : SqL K H p [.ref a, .int (m : Int)] := SqL.of hp
    refine ⟨_, rfl, _, _, _, _, rfl, rfl, eS, atI_nat (j := 1) rfl, _, _, rfl, rfl, _, rfl, _, _, _, 1, rfl, rfl, hp, rfl, ?_⟩
    have h1p : (upd H p (.lst [.ref a, .int ((m : Int) + 1)])) p = some (.lst [.ref a, .int ((m : Int) + 1)]) := upd_same
    have h1a : (upd H p (.lst [.ref a, .int ((m : Int) + 1)])) a = some (.lst (ns.map V.int)) := by
      rw [upd_ne hap]
      exact ha
    have fr : ∀ b, b ≠ p → (upd H p (.lst [.ref a, .int ((m : Int) + 1)])) b = H b := fun b hb => upd_ne hb
    show tSeq _ _ _ _ (upd H p (.lst [.ref a, .int ((m : Int) + 1)]))
    generalize upd H p (.lst [.ref a, .int ((m : Int) + 1)]) = H1 at h1p h1a fr
    have S1 : SqL K H1 p [.ref a, .int ((m : Int) + 1)] := SqL.of h1p
    have A1 : SqL K H1 a (ns.map V.int) := SqL.of h1a
    have hl2 : ((ns.map V.int).length : Int) = 120 := by
      rw [List.length_map, hl]
      rfl
    obtain ⟨x, hx, ex⟩ := at_int (ns := ns) (r := ((m : Int) + 1) * 7 % 120) (by omega) (by omega)
    refine ⟨_, rfl, _, _, _, _, rfl, rfl, S1, atI_nat (j := 0) rfl, _, rfl, _, _, _, _, rfl, rfl, S1, atI_nat (j := 1) rfl, _, _, rfl, rfl, .inr ⟨by decide, by decide⟩, .inl ⟨_, rfl, _, rfl, _, _, _, _, rfl, rfl, S1, atI_nat (j := 0) rfl, _, _, rfl, .inl A1, ?_⟩⟩
    rw [hl2]
    refine ⟨_, _, rfl, rfl, by show (0 : Int) < 120; decide, _, _, _, _, rfl, rfl, A1, ex, ?_⟩
    refine ⟨_, rfl, _, _, _, _, rfl, rfl, S1, atI_nat (j := 1) rfl, _, _, rfl, rfl, .inl ⟨by decide, by decide⟩, _, rfl, _, _, _, _, rfl, rfl, S1, atI_nat (j := 1) rfl, _, rfl, _, _, _, _, rfl, rfl, S1, atI_nat (j := 0) rfl, _, _, rfl, .inl A1, ?_⟩
    rw [hl2]
    refine ⟨_, _, rfl, rfl, ⟨by decide, by decide⟩, _, _, rfl, rfl, _, _, rfl, rfl, .inl ⟨by omega, by omega⟩, _, _, rfl, rfl, ?_⟩
    refine ⟨_, rfl, .inl ⟨_, rfl, _, rfl, _, _, rfl, rfl, hmany, ?_⟩⟩
    exact q _ _ (Int.emod_nonneg _ (by omega)) (Int.emod_lt_of_pos _ hmany) ⟨m + 1, ns, by omega, hap, h1p, h1a, hl, hb⟩ fr
def spLawRoot (_ : PySem.W.Frag) : Sp := fun vs H Q _ => ∃ n : Int, vs = [.int n] ∧ 0 ≤ n ∧ n < 2 ^ 60 ∧ Q (.int (rootI n)) H
theorem okLawRoot (T : Txt K mg fa fd) : FnOk P w K mg base CX0 1 (fa 59) (fd 59) ["n"] (spLawRoot K) := by
  refine T.F__law_root.ok scLawRoot (fun vs H Q E h => ?_) (fun cdv A outer s H vs Q E hr h => ?_)
  · obtain ⟨n, rfl, h0, h1, q⟩ := h
    rfl
  · obtain ⟨n, rfl, h0, h1, q⟩ := h
    refine ⟨_, (pss_cons (ps_set (i := 1) scLawRoot.nd rfl (Or.inl rfl) pe_int)
      (pss_cons (ps_set (i := 2) scLawRoot.nd rfl (Or.inl rfl) (pe_op op_add (pv 0) pe_int))
      (pss_cons (ps_for PassesOwn.never rfl (pi_range1 (by rfl) T.m_range (pa_cons pe_int pa_nil)) (pg_name (i := 3) scLawRoot.nd rfl (Or.inl rfl))
      (pss_cons (ps_if (pt_cmp (pc_le (pe_op op_sub (pv 2) (pv 1)) pe_int))
        (pss_one (ps_ret (pv 1)))
        pss_nil)
        (pss_cons (ps_set (i := 4) scLawRoot.nd rfl (Or.inl rfl) (pe_op op_fdiv (pe_op op_add (pv 1) (pv 2)) pe_int))
        (pss_one (ps_if (pt_cmp (pc_le (pe_op op_mul (pv 4) (pv 4)) (pv 0)))
        (pss_one (ps_set (i := 1) scLawRoot.nd rfl (Or.inl rfl) (pv 4)))
        (pss_one (ps_set (i := 2) scLawRoot.nd rfl (Or.inl rfl) (pv 4))))))))
      (pss_one (ps_ret (pv 1)))))), ?_⟩
    have h1' : n < 1152921504606846976 := h1
    refine ⟨_, rfl, _, _, rfl, rfl, 2000, rfl, by decide, by decide, ?_⟩
    refine for_range (lo := 0) (n := 2000) (fun i σ H' => ∃ (low high : Int) (x3 x4 : Option V), σ = [some (.int n), some (.int low), some (.int high), x3, x4] ∧ H' = H ∧ 0 ≤ low ∧ low < high ∧ high ≤ n + 1 ∧ low * low ≤ n ∧ n < high * high ∧ (high - low - 1) * 2 ^ i ≤ n)
      ⟨0, n + 1, none, none, rfl, rfl, by omega, by omega, by omega, by omega, ?_, by simp⟩ (fun i σ H' hi ⟨low, high, x3, x4, hσ, e, z0, z1, z2, z3, z4, z5⟩ => ?_) (fun σ H' ⟨low, high, x3, x4, hσ, e, z0, z1, z2, z3, z4, z5⟩ => ?_)
    · have a : (n + 1) * 1 ≤ (n + 1) * (n + 1) := Int.mul_le_mul_of_nonneg_left (by omega) (by omega)
      omega
    · subst hσ e
      refine ⟨_, rfl, _, rfl, _, _, rfl, rfl, _, _, rfl, rfl, _, rfl, way2 (fun h => ?_) (fun h => ?_)⟩
      · have eh : high = low + 1 := by omega
        subst eh
        refine ⟨_, rfl, ?_⟩
        rw [← rootI_uniq h0 z0 z3 z4] at q
        exact q
      · obtain ⟨k1, k2, k3, k4⟩ := half_step (by omega) z5
        refine ⟨_, rfl, _, rfl, _, _, rfl, rfl, _, _, rfl, rfl, ⟨by decide, by decide⟩, ?_⟩
        refine ⟨_, rfl, _, rfl, _, _, rfl, rfl, .inl ⟨by omega, by omega⟩, _, rfl, _, _, rfl, rfl, _, rfl, way2 (fun h => ?_) (fun h => ?_)⟩
        · exact ⟨_, rfl, (low + high) / 2, high, _, _, rfl, rfl, by omega, k4, z2, h, z4, k2⟩
        · exact ⟨_, rfl, low, (low + high) / 2, _, _, rfl, rfl, z0, k3, by omega, z3, by omega, k1⟩
    · subst hσ e
      have eh : high = low + 1 := by
        by_cases z : high - low - 1 ≤ 0
        · omega
        · have p0 : (2 : Int) ^ 60 ≤ 2 ^ 2000 := by
            have e1 : ((2 ^ 60 : Nat) : Int) = 2 ^ 60 := Int.natCast_pow 2 60
            have e2 : ((2 ^ 2000 : Nat) : Int) = 2 ^ 2000 := Int.natCast_pow 2 2000
            have e3 := Nat.pow_le_pow_right (n := 2) (by decide) (show 60 ≤ 2000 by decide)
            omega
          have a : 1 * 2 ^ 2000 ≤ (high - low - 1) * 2 ^ 2000 := Int.mul_le_mul_of_nonneg_right (by omega) (Int.le_trans (by decide) p0)
          omega
      subst eh
      refine ⟨_, rfl, ?_⟩
      rw [← rootI_uniq h0 z0 z3 z4] at q
      exact q
def spLawMul (K : PySem.W.Frag) : Sp := fun vs H Q _ => ∃ (am an : Addr) (p q r s p2 q2 r2 s2 : Int) (N : Nat), vs = [.ref am, .ref an] ∧ SqT K H am [.int p, .int q, .int r, .int s] ∧ SqT K H an [.int p2, .int q2, .int r2, .int s2] ∧ Bd N p ∧ Bd N q ∧ Bd N r ∧ Bd N s ∧ Bd N p2 ∧ Bd N q2 ∧ Bd N r2 ∧ Bd N s2 ∧ N ≤ 400000 ∧ (R.Nw H [.int (p * p2 + q * r2), .int (p * q2 + q * s2), .int (r * p2 + s * r2), .int (r * q2 + s * s2)] Q)
theorem uLawMul {K : PySem.W.Frag} {H : Hp} {Q : VK} {E : XK} {vs : List V} {am an : Addr} {p q r s p2 q2 r2 s2 : Int} {n0 n1 n2 n3 n4 n5 n6 n7 : Nat} (hev : vs = [.ref am, .ref an]) (s0 : SqT K H am [.int p, .int q, .int r, .int s]) (s1 : SqT K H an [.int p2, .int q2, .int r2, .int s2]) (b0 : Bd n0 p) (b1 : Bd n1 q) (b2 : Bd n2 r) (b3 : Bd n3 s) (b4 : Bd n4 p2) (b5 : Bd n5 q2) (b6 : Bd n6 r2) (b7 : Bd n7 s2) (hll : (n0 + n1 + n2 + n3 + n4 + n5 + n6 + n7 ≤ 400000) = True) (kk : R.Nw H [.int (p * p2 + q * r2), .int (p * q2 + q * s2), .int (r * p2 + s * r2), .int (r * q2 + s * s2)] Q) : spLawMul K vs H Q E :=
  have hll := of_eq_true hll
  ⟨am, an, p, q, r, s, p2, q2, r2, s2, n0 + n1 + n2 + n3 + n4 + n5 + n6 + n7, hev, s0, s1, b0.mono (by omega), b1.mono (by omega), b2.mono (by omega), b3.mono (by omega), b4.mono (by omega), b5.mono (by omega), b6.mono (by omega), b7.mono (by omega), hll, kk⟩
theorem okLawMul (T : Txt K mg fa fd) : FnOk P w K mg base CX0 1 (fa 60) (fd 60) ["m", "n"] (spLawMul K) := by
  refine T.F__law_mul.ok scLawMul (fun vs H Q E h => ?_) (fun cdv A outer s H vs Q E hr h => ?_)
  · obtain ⟨am, an, p, q, r, s, p2, q2, r2, s2, N, rfl, h_am, h_an, b_p, b_q, b_r, b_s, b_p2, b_q2, b_r2, b_s2, hN, kk⟩ := h
    rfl
  · obtain ⟨am, an, p, q, r, s, p2, q2, r2, s2, N, rfl, h_am, h_an, b_p, b_q, b_r, b_s, b_p2, b_q2, b_r2, b_s2, hN, kk⟩ := h
    refine ⟨_, (pss_cons (ps_set (i := 2) scLawMul.nd rfl (Or.inl rfl) (pe_lst (pa_cons (pe_op op_add (pe_op op_mulW (pe_ix (ixT K) (pv 0) pe_int (fun _ _ => rfl)) (pe_ix (ixT K) (pv 1) pe_int (fun _ _ => rfl))) (pe_op op_mulW (pe_ix (ixT K) (pv 0) pe_int (fun _ _ => rfl)) (pe_ix (ixT K) (pv 1) pe_int (fun _ _ => rfl)))) (pa_cons (pe_op op_add (pe_op op_mulW (pe_ix (ixT K) (pv 0) pe_int (fun _ _ => rfl)) (pe_ix (ixT K) (pv 1) pe_int (fun _ _ => rfl))) (pe_op op_mulW (pe_ix (ixT K) (pv 0) pe_int (fun _ _ => rfl)) (pe_ix (ixT K) (pv 1) pe_int (fun _ _ => rfl)))) pa_nil))))
      (pss_one (ps_ret (pe_callTy (tupQ K) (by rfl) T.m_tuple (by decide +kernel) (pa_cons (pe_op op_cat (pv 2) (pe_lst (pa_cons (pe_op op_add (pe_op op_mulW (pe_ix (ixT K) (pv 0) pe_int (fun _ _ => rfl)) (pe_ix (ixT K) (pv 1) pe_int (fun _ _ => rfl))) (pe_op op_mulW (pe_ix (ixT K) (pv 0) pe_int (fun _ _ => rfl)) (pe_ix (ixT K) (pv 1) pe_int (fun _ _ => rfl)))) (pa_cons (pe_op op_add (pe_op op_mulW (pe_ix (ixT K) (pv 0) pe_int (fun _ _ => rfl)) (pe_ix (ixT K) (pv 1) pe_int (fun _ _ => rfl))) (pe_op op_mulW (pe_ix (ixT K) (pv 0) pe_int (fun _ _ => rfl)) (pe_ix (ixT K) (pv 1) pe_int (fun _ _ => rfl)))) pa_nil)))) pa_nil))))), ?_⟩
    clean_wf
    all_goals first | omega | exact kk | (refine kk _ _ ?_ (by assumption); (repeat' (first | with_reducible exact Same.refl _ | with_reducible assumption | ((with_reducible apply sameB); with_reducible assumption))))
def spLawAt (K : PySem.W.Frag) : Sp := fun vs H Q _ => ∃ (am : Addr) (p q r s x y : Int) (N : Nat), vs = [.ref am, .int x, .int y] ∧ SqT K H am [.int p, .int q, .int r, .int s] ∧ Bd N p ∧ Bd N q ∧ Bd N r ∧ Bd N s ∧ Bd N x ∧ Bd N y ∧ N ≤ 400000 ∧ (R.Nw H [.int (p * x + q * y), .int (r * x + s * y)] Q)
theorem uLawAt {K : PySem.W.Frag} {H : Hp} {Q : VK} {E : XK} {vs : List V} {am : Addr} {p q r s x y : Int} {n0 n1 n2 n3 n4 n5 : Nat} (hev : vs = [.ref am, .int x, .int y]) (s0 : SqT K H am [.int p, .int q, .int r, .int s]) (b0 : Bd n0 p) (b1 : Bd n1 q) (b2 : Bd n2 r) (b3 : Bd n3 s) (b4 : Bd n4 x) (b5 : Bd n5 y) (hll : (n0 + n1 + n2 + n3 + n4 + n5 ≤ 400000) = True) (kk : R.Nw H [.int (p * x + q * y), .int (r * x + s * y)] Q) : spLawAt K vs H Q E :=
  have hll := of_eq_true hll
  ⟨am, p, q, r, s, x, y, n0 + n1 + n2 + n3 + n4 + n5, hev, s0, b0.mono (by omega), b1.mono (by omega), b2.mono (by omega), b3.mono (by omega), b4.mono (by omega), b5.mono (by omega), hll, kk⟩
theorem okLawAt (T : Txt K mg fa fd) : FnOk P w K mg base CX0 1 (fa 61) (fd 61) ["m", "x", "y"] (spLawAt K) := by
  refine T.F__law_at.ok scLawAt (fun vs H Q E h => ?_) (fun cdv A outer s H vs Q E hr h => ?_)
  · obtain ⟨am, p, q, r, s, x, y, N, rfl, h_am, b_p, b_q, b_r, b_s, b_x, b_y, hN, kk⟩ := h
    rfl
  · obtain ⟨am, p, q, r, s, x, y, N, rfl, h_am, b_p, b_q, b_r, b_s, b_x, b_y, hN, kk⟩ := h
    refine ⟨_, (pss_one (ps_ret (pe_tup (pa_cons (pe_op op_add (pe_op op_mulW (pe_ix (ixT K) (pv 0) pe_int (fun _ _ => rfl)) (pv 1)) (pe_op op_mulW (pe_ix (ixT K) (pv 0) pe_int (fun _ _ => rfl)) (pv 2))) (pa_cons (pe_op op_add (pe_op op_mulW (pe_ix (ixT K) (pv 0) pe_int (fun _ _ => rfl)) (pv 1)) (pe_op op_mulW (pe_ix (ixT K) (pv 0) pe_int (fun _ _ => rfl)) (pv 2))) pa_nil))))), ?_⟩
    clean_wf
    all_goals first | omega | exact kk | (refine kk _ _ ?_ (by assumption); (repeat' (first | with_reducible exact Same.refl _ | with_reducible assumption | ((with_reducible apply sameB); with_reducible assumption))))
def spLawWorth (K : PySem.W.Frag) : Sp := fun vs H Q _ => ∃ (aform : Addr) (a b c x y : Int) (N : Nat), vs = [.ref aform, .int x, .int y] ∧ SqT K H aform [.int a, .int b, .int c] ∧ Bd N a ∧ Bd N b ∧ Bd N c ∧ Bd N x ∧ Bd N y ∧ N ≤ 300000 ∧ (Q (.int (a * x * x + b * x * y + c * y * y)) H)
theorem uLawWorth {K : PySem.W.Frag} {H : Hp} {Q : VK} {E : XK} {vs : List V} {aform : Addr} {a b c x y : Int} {n0 n1 n2 n3 n4 : Nat} (hev : vs = [.ref aform, .int x, .int y]) (s0 : SqT K H aform [.int a, .int b, .int c]) (b0 : Bd n0 a) (b1 : Bd n1 b) (b2 : Bd n2 c) (b3 : Bd n3 x) (b4 : Bd n4 y) (hll : (n0 + n1 + n2 + n3 + n4 ≤ 300000) = True) (kk : Q (.int (a * x * x + b * x * y + c * y * y)) H) : spLawWorth K vs H Q E :=
  have hll := of_eq_true hll
  ⟨aform, a, b, c, x, y, n0 + n1 + n2 + n3 + n4, hev, s0, b0.mono (by omega), b1.mono (by omega), b2.mono (by omega), b3.mono (by omega), b4.mono (by omega), hll, kk⟩
theorem okLawWorth (T : Txt K mg fa fd) : FnOk P w K mg base CX0 1 (fa 62) (fd 62) ["form", "x", "y"] (spLawWorth K) := by
  refine T.F__law_worth.ok scLawWorth (fun vs H Q E h => ?_) (fun cdv A outer s H vs Q E hr h => ?_)
  · obtain ⟨aform, a, b, c, x, y, N, rfl, h_aform, b_a, b_b, b_c, b_x, b_y, hN, kk⟩ := h
    rfl
  · obtain ⟨aform, a, b, c, x, y, N, rfl, h_aform, b_a, b_b, b_c, b_x, b_y, hN, kk⟩ := h
    refine ⟨_, (pss_one (ps_ret (pe_op op_add (pe_op op_add (pe_op op_mulW (pe_op op_mulW (pe_ix (ixT K) (pv 0) pe_int (fun _ _ => rfl)) (pv 1)) (pv 1)) (pe_op op_mulW (pe_op op_mulW (pe_ix (ixT K) (pv 0) pe_int (fun _ _ => rfl)) (pv 1)) (pv 2))) (pe_op op_mulW (pe_op op_mulW (pe_ix (ixT K) (pv 0) pe_int (fun _ _ => rfl)) (pv 2)) (pv 2))))), ?_⟩
    clean_wf
    all_goals first | omega | exact kk | (refine kk _ _ ?_ (by assumption); (repeat' (first | with_reducible exact Same.refl _ | with_reducible assumption | ((with_reducible apply sameB); with_reducible assumption))))
def spLawAct (K : PySem.W.Frag) : Sp := fun vs H Q _ => ∃ (aform am : Addr) (a b c p q r s : Int) (N : Nat), vs = [.ref aform, .ref am] ∧ SqT K H aform [.int a, .int b, .int c] ∧ SqT K H am [.int p, .int q, .int r, .int s] ∧ Bd N a ∧ Bd N b ∧ Bd N c ∧ Bd N p ∧ Bd N q ∧ Bd N r ∧ Bd N s ∧ N ≤ 59000 ∧ (R.Nw H [.int (a * p * p + b * p * r + c * r * r), .int (2 * a * p * q + b * (p * s + q * r) + 2 * c * r * s), .int (a * q * q + b * q * s + c * s * s)] Q)
theorem uLawAct {K : PySem.W.Frag} {H : Hp} {Q : VK} {E : XK} {vs : List V} {aform am : Addr} {a b c p q r s : Int} {n0 n1 n2 n3 n4 n5 n6 : Nat} (hev : vs = [.ref aform, .ref am]) (s0 : SqT K H aform [.int a, .int b, .int c]) (s1 : SqT K H am [.int p, .int q, .int r, .int s]) (b0 : Bd n0 a) (b1 : Bd n1 b) (b2 : Bd n2 c) (b3 : Bd n3 p) (b4 : Bd n4 q) (b5 : Bd n5 r) (b6 : Bd n6 s) (hll : (n0 + n1 + n2 + n3 + n4 + n5 + n6 ≤ 59000) = True) (kk : R.Nw H [.int (a * p * p + b * p * r + c * r * r), .int (2 * a * p * q + b * (p * s + q * r) + 2 * c * r * s), .int (a * q * q + b * q * s + c * s * s)] Q) : spLawAct K vs H Q E :=
  have hll := of_eq_true hll
  ⟨aform, am, a, b, c, p, q, r, s, n0 + n1 + n2 + n3 + n4 + n5 + n6, hev, s0, s1, b0.mono (by omega), b1.mono (by omega), b2.mono (by omega), b3.mono (by omega), b4.mono (by omega), b5.mono (by omega), b6.mono (by omega), hll, kk⟩
theorem okLawAct (T : Txt K mg fa fd) : FnOk P w K mg base CX0 2 (fa 63) (fd 63) ["form", "m"] (spLawAct K) := by
  refine T.F__law_act.ok scLawAct (fun vs H Q E h => ?_) (fun cdv A outer s H vs Q E hr h => ?_)
  · obtain ⟨aform, am, a, b, c, p, q, r, s, N, rfl, h_aform, h_am, b_a, b_b, b_c, b_p, b_q, b_r, b_s, hN, kk⟩ := h
    rfl
  · obtain ⟨aform, am, a, b, c, p, q, r, s, N, rfl, h_aform, h_am, b_a, b_b, b_c, b_p, b_q, b_r, b_s, hN, kk⟩ := h
    refine ⟨_, (pss_cons (ps_set (i := 2) scLawAct.nd rfl (Or.inl rfl) (pe_call (sp := spLawWorth K) (okLawWorth T) hr (by rfl) T.G__law_worth T.F__law_worth.kp T.B__law_worth .nil pass0 (pa_cons (pv 0) (pa_cons (pe_ix (ixT K) (pv 1) pe_int (fun _ _ => rfl)) (pa_cons (pe_ix (ixT K) (pv 1) pe_int (fun _ _ => rfl)) pa_nil)))))
      (pss_cons (ps_set (i := 3) scLawAct.nd rfl (Or.inl rfl) (pe_call (sp := spLawWorth K) (okLawWorth T) hr (by rfl) T.G__law_worth T.F__law_worth.kp T.B__law_worth .nil pass0 (pa_cons (pv 0) (pa_cons (pe_ix (ixT K) (pv 1) pe_int (fun _ _ => rfl)) (pa_cons (pe_ix (ixT K) (pv 1) pe_int (fun _ _ => rfl)) pa_nil)))))
      (pss_one (ps_ret (pe_tup (pa_cons (pv 2) (pa_cons (pe_op op_sub (pe_op op_sub (pe_call (sp := spLawWorth K) (okLawWorth T) hr (by rfl) T.G__law_worth T.F__law_worth.kp T.B__law_worth .nil pass0 (pa_cons (pv 0) (pa_cons (pe_op op_add (pe_ix (ixT K) (pv 1) pe_int (fun _ _ => rfl)) (pe_ix (ixT K) (pv 1) pe_int (fun _ _ => rfl))) (pa_cons (pe_op op_add (pe_ix (ixT K) (pv 1) pe_int (fun _ _ => rfl)) (pe_ix (ixT K) (pv 1) pe_int (fun _ _ => rfl))) pa_nil)))) (pv 2)) (pv 3)) (pa_cons (pv 3) pa_nil)))))))), ?_⟩
    rw [← act_mid] at kk
    clean_wf
    all_goals first | omega | exact kk | (refine kk _ _ ?_ (by assumption); (repeat' (first | with_reducible exact Same.refl _ | with_reducible assumption | ((with_reducible apply sameB); with_reducible assumption))))
def Lc4 (i : Nat) (m1 m2 m3 m4 : Int) : Prop := m1 * m4 - m2 * m3 = 1 ∧ m1.natAbs ≤ 3 ^ i ∧ m2.natAbs ≤ 3 ^ i ∧ m3.natAbs ≤ 3 ^ i ∧ m4.natAbs ≤ 3 ^ i
def spLawChange (K : PySem.W.Frag) : Sp := fun vs H Q _ => ∃ (p a : Addr) (N : Nat) (many : Int), vs = [.ref p, .int many] ∧ Dw H p a N ∧ N < 100000 ∧ 0 ≤ many ∧ many ≤ 10 ∧
  ∀ H' t m1 m2 m3 m4, Dw H' p a (N + 31) → Kp p H H' → SqT K H' t [.int m1, .int m2, .int m3, .int m4] → Lc4 many.toNat m1 m2 m3 m4 → Q (.ref t) H'
theorem uLawChange {K : PySem.W.Frag} {H : Hp} {Q : VK} {E : XK} {vs : List V} {p a : Addr} {N : Nat} {many : Int} (e : vs = [.ref p, .int many]) (d : Dw H p a N) (hN : N < 100000) (h0 : 0 ≤ many) (h1 : many ≤ 10)
    (kk : ∀ H' t m1 m2 m3 m4, Dw H' p a (N + 31) → Kp p H H' → SqT K H' t [.int m1, .int m2, .int m3, .int m4] → Lc4 many.toNat m1 m2 m3 m4 → Q (.ref t) H') : spLawChange K vs H Q E := ⟨p, a, N, many, e, d, hN, h0, h1, kk⟩
theorem Lc4.mono {i j : Nat} {m1 m2 m3 m4 : Int} (h : Lc4 i m1 m2 m3 m4) (l : i ≤ j) : Lc4 j m1 m2 m3 m4 := by
  have e : 3 ^ i ≤ 3 ^ j := Nat.pow_le_pow_right (by decide) l
  obtain ⟨h1, h2, h3, h4, h5⟩ := h
  exact ⟨h1, Nat.le_trans h2 e, Nat.le_trans h3 e, Nat.le_trans h4 e, Nat.le_trans h5 e⟩
theorem Lc4.bd {i : Nat} {m1 m2 m3 m4 : Int} (h : Lc4 i m1 m2 m3 m4) (l : i ≤ 10) : Bd 16 m1 ∧ Bd 16 m2 ∧ Bd 16 m3 ∧ Bd 16 m4 := by
  obtain ⟨h1, h2, h3, h4, h5⟩ := h.mono l
  exact ⟨Bd.of h2 (by decide), Bd.of h3 (by decide), Bd.of h4 (by decide), Bd.of h5 (by decide)⟩
theorem two3 {i : Nat} {m x t : Int} (h1 : m.natAbs ≤ 3 ^ i) (h2 : x.natAbs ≤ 3 ^ i) (t1 : -2 ≤ t) (t2 : t ≤ 2) : (m * t + x).natAbs ≤ 3 ^ (i + 1) := by
  have e : (m * t).natAbs ≤ 3 ^ i * 2 := by
    rw [Int.natAbs_mul]
    exact Nat.mul_le_mul h1 (by omega)
  rw [Nat.pow_succ]
  omega
theorem Lc4.s1 {i : Nat} {m1 m2 m3 m4 t : Int} (h : Lc4 i m1 m2 m3 m4) (t1 : -2 ≤ t) (t2 : t ≤ 2) : Lc4 (i + 1) (m1 * 1 + m2 * 0) (m1 * t + m2 * 1) (m3 * 1 + m4 * 0) (m3 * t + m4 * 1) := by
  have k := h.mono (Nat.le_succ i)
  obtain ⟨h1, h2, h3, h4, h5⟩ := h
  obtain ⟨k1, k2, k3, k4, k5⟩ := k
  rw [Int.mul_one, Int.mul_one, Int.mul_one, Int.mul_one, Int.mul_zero, Int.mul_zero, Int.add_zero, Int.add_zero]
  refine ⟨?_, k2, two3 h2 h3 t1 t2, k4, two3 h4 h5 t1 t2⟩
  grind
theorem Lc4.s2 {i : Nat} {m1 m2 m3 m4 t : Int} (h : Lc4 i m1 m2 m3 m4) (t1 : -2 ≤ t) (t2 : t ≤ 2) : Lc4 (i + 1) (m1 * 1 + m2 * t) (m1 * 0 + m2 * 1) (m3 * 1 + m4 * t) (m3 * 0 + m4 * 1) := by
  have k := h.mono (Nat.le_succ i)
  obtain ⟨h1, h2, h3, h4, h5⟩ := h
  obtain ⟨k1, k2, k3, k4, k5⟩ := k
  rw [Int.mul_one, Int.mul_one, Int.mul_one, Int.mul_one, Int.mul_zero, Int.mul_zero, Int.zero_add, Int.zero_add, Int.add_comm m1, Int.add_comm m3]
  refine ⟨?_, two3 h3 h2 t1 t2, k3, two3 h5 h4 t1 t2, k5⟩
  grind
theorem Lc4.s3 {i : Nat} {m1 m2 m3 m4 : Int} (h : Lc4 i m1 m2 m3 m4) : Lc4 (i + 1) (m1 * 0 + m2 * 1) (m1 * (-1) + m2 * 0) (m3 * 0 + m4 * 1) (m3 * (-1) + m4 * 0) := by
  have k := h.mono (Nat.le_succ i)
  obtain ⟨h1, h2, h3, h4, h5⟩ := h
  obtain ⟨k1, k2, k3, k4, k5⟩ := k
  refine ⟨by grind, by omega, by omega, by omega, by omega⟩
theorem okLawChange (T : Txt K mg fa fd) : FnOk P w K mg base CX0 2 (fa 64) (fd 64) ["state", "many"] (spLawChange K) := by
  refine T.F__law_change.ok scLawChange (fun vs H Q E h => ?_) (fun cdv A outer s H vs Q E hr h => ?_)
  · obtain ⟨p, a, N, many, rfl, d, hN, h0, h10, kk⟩ := h
    rfl
  · obtain ⟨p, a, N, many, rfl, d, hN, h0, h10, kk⟩ := h
    refine ⟨_, (pss_cons (ps_set (i := 2) scLawChange.nd rfl (Or.inl rfl) (pe_tup (pa_cons pe_int (pa_cons pe_int (pa_cons pe_int (pa_cons pe_int pa_nil))))))
      (pss_cons (ps_for PassesOwn.never rfl (pi_range1 (by rfl) T.m_range (pa_cons (pe_call (sp := spLawNext K) (okLawNext T) hr (by rfl) T.G__law_next T.F__law_next.kp T.B__law_next .nil pass0 (pa_cons (pv 0) (pa_cons (pe_op op_add (pv 1) pe_int) pa_nil))) pa_nil)) (pg_name (i := 3) scLawChange.nd rfl (Or.inl rfl))
      (pss_cons (ps_set (i := 4) scLawChange.nd rfl (Or.inl rfl) (pe_op op_sub (pe_call (sp := spLawNext K) (okLawNext T) hr (by rfl) T.G__law_next T.F__law_next.kp T.B__law_next .nil pass0 (pa_cons (pv 0) (pa_cons pe_int pa_nil))) pe_int))
        (pss_one (ps_set (i := 2) scLawChange.nd rfl (Or.inl rfl) (pe_call (sp := spLawMul K) (okLawMul T) hr (by rfl) T.G__law_mul T.F__law_mul.kp T.B__law_mul .nil pass0 (pa_cons (pv 2) (pa_cons (pe_ix (ixL K) (pe_lst (pa_cons (pe_tup (pa_cons pe_int (pa_cons (pv 4) (pa_cons pe_int (pa_cons pe_int pa_nil))))) (pa_cons (pe_tup (pa_cons pe_int (pa_cons pe_int (pa_cons (pv 4) (pa_cons pe_int pa_nil))))) (pa_cons (pe_tup (pa_cons pe_int (pa_cons (pe_un un_neg pe_int) (pa_cons pe_int (pa_cons pe_int pa_nil))))) pa_nil)))) (pe_call (sp := spLawNext K) (okLawNext T) hr (by rfl) T.G__law_next T.F__law_next.kp T.B__law_next .nil pass0 (pa_cons (pv 0) (pa_cons pe_int pa_nil))) (fun _ _ => rfl)) pa_nil)))))))
      (pss_one (ps_ret (pv 2))))), ?_⟩
    clean_wf
    intro r1 H1 r1a r1b d1 k1
    clean_wf
    refine R.forN (lo := 0) (n := r1.toNat) (fun i σ H' => ∃ (b : Addr) (m1 m2 m3 m4 : Int) (x3 x4 : Option V), σ = [some (.ref p), some (.int many), some (.ref b), x3, x4] ∧ Dw H' p a (N + 1 + 2 * i) ∧ Kp p H1 H' ∧ SqT K H' b [.int m1, .int m2, .int m3, .int m4] ∧ Lc4 i m1 m2 m3 m4)
      ?_ (fun i σ H2 hi hPv => ?_) (fun σ H2 hPv => ?_)
    · exact ⟨_, 1, 0, 0, 1, _, _, rfl, d1, Kp.refl, by clean_wf, by decide, by decide, by decide, by decide, by decide⟩
    · obtain ⟨b, m1, m2, m3, m4, x3, x4, rfl, d2, k2, s2, l2⟩ := hPv
      have bd := l2.bd (by omega)
      obtain ⟨b1, b2, b3, b4⟩ := bd
      clean_wf
      intro r2 H3 r2a r2b d3 k3
      clean_wf
      intro r3 H4 r3a r3b d4 k4
      have key : ∀ {σ : L2.St} {t1 t2 t3 t4 : Int} {H5 : Hp} {c : Addr}, σ = [some (.ref p), some (.int many), some (.ref c), some (.int (0 + ↑i)), some (.int (r2 - 2))] → Dw H5 p a (N + 1 + 2 * i + 1 + 1) → Kp p H4 H5 →
          SqT K H5 c [.int (m1 * t1 + m2 * t3), .int (m1 * t2 + m2 * t4), .int (m3 * t1 + m4 * t3), .int (m3 * t2 + m4 * t4)] → Lc4 (i + 1) (m1 * t1 + m2 * t3) (m1 * t2 + m2 * t4) (m3 * t1 + m4 * t3) (m3 * t2 + m4 * t4) →
          ∃ (b : Addr) (m1 m2 m3 m4 : Int) (x3 x4 : Option V), σ = [some (.ref p), some (.int many), some (.ref b), x3, x4] ∧ Dw H5 p a (N + 1 + 2 * (i + 1)) ∧ Kp p H1 H5 ∧ SqT K H5 b [.int m1, .int m2, .int m3, .int m4] ∧ Lc4 (i + 1) m1 m2 m3 m4 :=
        fun e d5 k5 s5 l5 => ⟨_, _, _, _, _, _, _, e, d5, by sizeOf_list_dec, s5, l5⟩
      obtain rfl | rfl | rfl : r3 = 0 ∨ r3 = 1 ∨ r3 = 2 := by omega
      · skip
        clean_wf
        refine key (t1 := 1) (t2 := r2 - 2) (t3 := 0) (t4 := 1) rfl ?_ ?_ ?_ ?_
        · skip
          clean_wf
        · sizeOf_list_dec
        · skip
          clean_wf
        · exact l2.s1 (by omega) (by omega)
      · skip
        clean_wf
        refine key (t1 := 1) (t2 := 0) (t3 := r2 - 2) (t4 := 1) rfl ?_ ?_ ?_ ?_
        · skip
          clean_wf
        · sizeOf_list_dec
        · skip
          clean_wf
        · exact l2.s2 (by omega) (by omega)
      · skip
        clean_wf
        refine key (t1 := 0) (t2 := -1) (t3 := 1) (t4 := 0) rfl ?_ ?_ ?_ ?_
        · skip
          clean_wf
        · sizeOf_list_dec
        · skip
          clean_wf
        · exact l2.s3
    · obtain ⟨b, m1, m2, m3, m4, x3, x4, rfl, d2, k2, s2, l2⟩ := hPv
      clean_wf
      exact kk _ _ _ _ _ _ (d2.mono (by omega)) (by sizeOf_list_dec) s2 (l2.mono (by omega))
def spLawSquare (_ : PySem.W.Frag) : Sp := fun vs H Q _ => ∃ n : Int, vs = [.int n] ∧ 0 ≤ n ∧ n < 1000000000 ∧ Q (.bl (decide (rootI n * rootI n = n))) H
theorem uLawSquare {K : PySem.W.Frag} {H : Hp} {Q : VK} {E : XK} {vs : List V} {n : Int} (e : vs = [.int n]) (h0 : 0 ≤ n) (h1 : n < 1000000000) (kk : Q (.bl (decide (rootI n * rootI n = n))) H) : spLawSquare K vs H Q E := ⟨n, e, h0, h1, kk⟩
theorem uLawRoot {K : PySem.W.Frag} {H : Hp} {Q : VK} {E : XK} {vs : List V} {n : Int} (e : vs = [.int n]) (h0 : 0 ≤ n) (h1 : n < 1000000000000000000) (kk : Q (.int (rootI n)) H) : spLawRoot K vs H Q E := ⟨n, e, h0, by show n < 1152921504606846976; omega, kk⟩
theorem okLawSquare (T : Txt K mg fa fd) : FnOk P w K mg base CX0 2 (fa 65) (fd 65) ["n"] (spLawSquare K) := by
  refine T.F__law_square.ok scLawSquare (fun vs H Q E h => ?_) (fun cdv A outer s H vs Q E hr h => ?_)
  · obtain ⟨n, rfl, h0, h1, kk⟩ := h
    rfl
  · obtain ⟨n, rfl, h0, h1, kk⟩ := h
    refine ⟨_, (pss_one (ps_ret (pe_and (pe_cmp (pc_ge (pv 0) pe_int)) (pe_one (pe_cmp (pc_eqI (pe_op op_mulW (pe_call (sp := spLawRoot K) (okLawRoot T) hr (by rfl) T.G__law_root T.F__law_root.kp T.B__law_root .nil pass0 (pa_cons (pv 0) pa_nil)) (pe_call (sp := spLawRoot K) (okLawRoot T) hr (by rfl) T.G__law_root T.F__law_root.kp T.B__law_root .nil pass0 (pa_cons (pv 0) pa_nil))) (pv 0))))))), ?_⟩
    obtain ⟨r0, r1⟩ := uLawRoot0 h0
    have br : Bd 60 (rootI n) := Bd.om (by omega)
    clean_wf
    refine wayT (by omega) ?_
    clean_wf
def spLawKind (K : PySem.W.Frag) : Sp := fun vs H Q _ => ∃ (af : Addr) (a b c : Int), vs = [.ref af] ∧ SqT K H af [.int a, .int b, .int c] ∧ a.natAbs ≤ 10000 ∧ b.natAbs ≤ 10000 ∧ c.natAbs ≤ 10000 ∧ ∀ H', Same H H' → Q (.str (kindS (dsc a b c))) H'
theorem uLawKind {K : PySem.W.Frag} {H : Hp} {Q : VK} {E : XK} {vs : List V} {af : Addr} {a b c : Int} (e : vs = [.ref af]) (hs : SqT K H af [.int a, .int b, .int c]) (h1 : a.natAbs ≤ 10000) (h2 : b.natAbs ≤ 10000) (h3 : c.natAbs ≤ 10000) (kk : ∀ H', Same H H' → Q (.str (kindS (dsc a b c))) H') : spLawKind K vs H Q E := ⟨af, a, b, c, e, hs, h1, h2, h3, kk⟩
theorem okLawKind (T : Txt K mg fa fd) : FnOk P w K mg base CX0 3 (fa 66) (fd 66) ["form"] (spLawKind K) := by
  refine T.F__law_kind.ok scLawKind (fun vs H Q E h => ?_) (fun cdv A outer s H vs Q E hr h => ?_)
  · obtain ⟨af, a, b, c, rfl, hs, h1, h2, h3, kk⟩ := h
    rfl
  · obtain ⟨af, a, b, c, rfl, hs, h1, h2, h3, kk⟩ := h
    refine ⟨_, (pss_cons (ps_set (i := 1) scLawKind.nd rfl (Or.inl rfl) (pe_op op_sub (pe_op op_mulW (pe_ix (ixT K) (pv 0) pe_int (fun _ _ => rfl)) (pe_ix (ixT K) (pv 0) pe_int (fun _ _ => rfl))) (pe_op op_mulW (pe_op op_mulW pe_int (pe_ix (ixT K) (pv 0) pe_int (fun _ _ => rfl))) (pe_ix (ixT K) (pv 0) pe_int (fun _ _ => rfl)))))
      (pss_cons (ps_if (pt_cmp (pc_lt (pv 1) pe_int))
      (pss_one (ps_ret pe_str))
      pss_nil)
      (pss_cons (ps_if (pt_cmp (pc_eqI (pv 1) pe_int))
      (pss_one (ps_ret pe_str))
      pss_nil)
      (pss_one (ps_ret (pe_ix (ixL K) (pe_lst (pa_cons pe_str (pa_cons pe_str pa_nil))) (pe_callTy (intQ K) (by rfl) T.m_int (by decide +kernel) (pa_cons (pe_call (sp := spLawSquare K) (okLawSquare T) hr (by rfl) T.G__law_square T.F__law_square.kp T.B__law_square .nil pass0 (pa_cons (pv 1) pa_nil)) pa_nil)) (fun _ _ => rfl))))))), ?_⟩
    have ds := dsc_size (n := 10000) (by decide) (show (a.natAbs : Int) ≤ 10000 by omega) (show (b.natAbs : Int) ≤ 10000 by omega) (show (c.natAbs : Int) ≤ 10000 by omega)
    have ed : b * b - 4 * a * c = dsc a b c := rfl
    have ba : Bd 60 a := Bd.om (by omega)
    have bb : Bd 60 b := Bd.om (by omega)
    have bc : Bd 60 c := Bd.om (by omega)
    clean_wf
    rw [ed]
    generalize dsc a b c = d at *
    refine way2 (fun z => ?_) (fun z => ?_)
    · have e : kindS d = "definite" := by
        unfold kindS
        rw [if_pos z]
      rw [e] at kk
      clean_wf
      exact kk _ (Same.refl _)
    clean_wf
    refine way2 (fun y => ?_) (fun y => ?_)
    · have e : kindS d = "flat" := by
        unfold kindS
        rw [if_neg z, if_pos y]
      rw [e] at kk
      clean_wf
      exact kk _ (Same.refl _)
    clean_wf
    by_cases x : rootI d * rootI d = d
    · have e : kindS d = "split" := by
        unfold kindS
        rw [if_neg z, if_neg y, if_pos x]
      rw [e] at kk
      rw [if_pos (decide_eq_true x)]
      clean_wf
      exact kk _ (by assumption)
    · have e : kindS d = "indefinite" := by
        unfold kindS
        rw [if_neg z, if_neg y, if_neg x]
      rw [e] at kk
      rw [if_neg (fun h => x (of_decide_eq_true h))]
      clean_wf
      exact kk _ (by assumption)
def spLawForm (K : PySem.W.Frag) : Sp := fun vs H Q _ => ∃ (p q : Addr) (N : Nat) (ind : Bool), vs = [.ref p, .str (sortS ind)] ∧ Dw H p q N ∧ N ≤ 100000 ∧
  ∀ H' t a b c, Dw H' p q (N + 200) → Kp p H H' → SqT K H' t [.int a, .int b, .int c] → FormOk ind a b c → Q (.ref t) H'
theorem uLawForm {K : PySem.W.Frag} {H : Hp} {Q : VK} {E : XK} {vs : List V} {p q : Addr} {N : Nat} (ind : Bool) (e : vs = [.ref p, .str (sortS ind)]) (d : Dw H p q N) (hN : N ≤ 100000)
    (kk : ∀ H' t a b c, Dw H' p q (N + 200) → Kp p H H' → SqT K H' t [.int a, .int b, .int c] → FormOk ind a b c → Q (.ref t) H') : spLawForm K vs H Q E := ⟨p, q, N, ind, e, d, hN, kk⟩
theorem sgn_at {r : Int} (h0 : 0 ≤ r) (h1 : r < 2) : ∃ v : Int, (v = 1 ∨ v = -1) ∧ atI [V.int 1, V.int (-1)] r = some (.int v) := by
  obtain rfl | rfl : r = 0 ∨ r = 1 := by omega
  · exact ⟨1, .inl rfl, rfl⟩
  · exact ⟨-1, .inr rfl, rfl⟩
theorem sgn_abs {x v : Int} (h : v = 1 ∨ v = -1) : (x * v).natAbs = x.natAbs := by
  rcases h with rfl | rfl
  · rw [Int.mul_one]
  · rw [Int.mul_neg, Int.mul_one, Int.natAbs_neg]
theorem okLawForm (T : Txt K mg fa fd) : FnOk P w K mg base CX0 4 (fa 67) (fd 67) ["state", "sort"] (spLawForm K) := by
  refine T.F__law_form.ok scLawForm (fun vs H Q E h => ?_) (fun cdv A outer s H vs Q E hr h => ?_)
  · obtain ⟨p, q, N, ind, rfl, d0, hN, kk⟩ := h
    rfl
  · obtain ⟨p, q, N, ind, rfl, d0, hN, kk⟩ := h
    refine ⟨_, (pss_cons (ps_if (pt_cmpR op_eq (pv 1) pe_str (nomark _))
      (pss_one ps_never)
      pss_nil)
      (pss_cons (ps_if (pt_cmpR op_eq (pv 1) pe_str (nomark _))
      (pss_one ps_never)
      pss_nil)
      (pss_cons (ps_for PassesOwn.never rfl (pi_range1 (by rfl) T.m_range (pa_cons pe_int pa_nil)) (pg_name (i := 2) scLawForm.nd rfl (Or.inl rfl))
      (pss_cons (ps_set (i := 3) scLawForm.nd rfl (Or.inl rfl) (pe_op op_mulW (pe_op op_add pe_int (pe_call (sp := spLawNext K) (okLawNext T) (hr.mono (by decide)) (by rfl) T.G__law_next T.F__law_next.kp T.B__law_next .nil pass0 (pa_cons (pv 0) (pa_cons pe_int pa_nil)))) (pe_ix (ixL K) (pe_lst (pa_cons pe_int (pa_cons (pe_un un_neg pe_int) pa_nil))) (pe_call (sp := spLawNext K) (okLawNext T) (hr.mono (by decide)) (by rfl) T.G__law_next T.F__law_next.kp T.B__law_next .nil pass0 (pa_cons (pv 0) (pa_cons pe_int pa_nil))) (fun _ _ => rfl))))
        (pss_cons (ps_set (i := 4) scLawForm.nd rfl (Or.inl rfl) (pe_op op_mulW (pe_op op_add pe_int (pe_call (sp := spLawNext K) (okLawNext T) (hr.mono (by decide)) (by rfl) T.G__law_next T.F__law_next.kp T.B__law_next .nil pass0 (pa_cons (pv 0) (pa_cons pe_int pa_nil)))) (pe_ix (ixL K) (pe_lst (pa_cons pe_int (pa_cons (pe_un un_neg pe_int) pa_nil))) (pe_call (sp := spLawNext K) (okLawNext T) (hr.mono (by decide)) (by rfl) T.G__law_next T.F__law_next.kp T.B__law_next .nil pass0 (pa_cons (pv 0) (pa_cons pe_int pa_nil))) (fun _ _ => rfl))))
        (pss_cons (ps_set (i := 5) scLawForm.nd rfl (Or.inl rfl) (pe_tup (pa_cons (pv 3) (pa_cons (pe_op op_sub (pe_call (sp := spLawNext K) (okLawNext T) (hr.mono (by decide)) (by rfl) T.G__law_next T.F__law_next.kp T.B__law_next .nil pass0 (pa_cons (pv 0) (pa_cons pe_int pa_nil))) pe_int) (pa_cons (pv 4) pa_nil)))))
        (pss_one (ps_if (pt_cmpR op_eq (pe_call (sp := spLawKind K) (okLawKind T) hr (by rfl) T.G__law_kind T.F__law_kind.kp T.B__law_kind .nil pass0 (pa_cons (pv 5) pa_nil)) (pv 1) (nomark _))
        (pss_one (ps_ret (pv 5)))
        pss_nil))))))
      (pss_one (ps_ret (pe_ix (ixL K) (pe_lst (pa_cons (pe_tup (pa_cons pe_int (pa_cons pe_int (pa_cons pe_int pa_nil)))) (pa_cons (pe_tup (pa_cons pe_int (pa_cons pe_int (pa_cons (pe_un un_neg pe_int) pa_nil)))) pa_nil))) (pe_callTy (intQ K) (by rfl) T.m_int (by decide +kernel) (pa_cons (pe_cmpR op_eq (pv 1) pe_str (nomark _)) pa_nil)) (fun _ _ => rfl))))))), ?_⟩
    have n1 : ∀ ind : Bool, ¬ (V.str (sortS ind) = V.str "split") := by
      intro ind h
      injection h with h
      cases ind <;> exact absurd h (by decide)
    have n2 : ∀ ind : Bool, ¬ (V.str (sortS ind) = V.str "flat") := by
      intro ind h
      injection h with h
      cases ind <;> exact absurd h (by decide)
    have n3 : ∀ ind : Bool, decide (V.str (sortS ind) = V.str "indefinite") = ind := by
      intro ind
      cases ind
      · exact decide_eq_false (fun h => by injection h with h; exact absurd h (by decide))
      · exact decide_eq_true rfl
    clean_wf
    refine wayF (n1 ind) ?_
    clean_wf
    refine wayF (n2 ind) ?_
    clean_wf
    refine R.forN (lo := 0) (n := Int.toNat 30) (fun i σ H' => ∃ (x2 x3 x4 x5 : Option V), σ = [some (.ref p), some (.str (sortS ind)), x2, x3, x4, x5] ∧ Dw H' p q (N + 5 * i) ∧ Kp p H H')
      ⟨_, _, _, _, rfl, d0, Kp.refl⟩ (fun i σ H' hi hPv => ?_) (fun σ H' hPv => ?_)
    · obtain ⟨x2, x3, x4, x5, rfl, dw, kp⟩ := hPv
      replace hi : i < 30 := hi
      clean_wf
      intro r1 H1 r1a r1b d1 k1
      clean_wf
      intro r2 H2 r2a r2b d2 k2
      obtain ⟨v1, hv1, ev1⟩ := sgn_at r2a r2b
      refine R.ixL (xs := [V.int 1, V.int (-1)]) (by array_get_dec) ev1 ?_
      have z1 := sgn_abs (x := 1 + r1) hv1
      clean_wf
      intro r3 H3 r3a r3b d3 k3
      clean_wf
      intro r4 H4 r4a r4b d4 k4
      obtain ⟨v2, hv2, ev2⟩ := sgn_at r4a r4b
      refine R.ixL (xs := [V.int 1, V.int (-1)]) (by array_get_dec) ev2 ?_
      have z2 := sgn_abs (x := 1 + r3) hv2
      clean_wf
      intro r5 H5 r5a r5b d5 k5
      generalize (1 + r1) * v1 = a at *
      generalize (1 + r3) * v2 = c at *
      clean_wf
      intro H6 s6
      clean_wf
      refine way2 (fun z => ?_) (fun z => ?_)
      · skip
        clean_wf
        refine kk _ _ _ _ _ ?_ ?_ (by simp_wf) ⟨by omega, by omega, by omega, ?_⟩
        · exact Dw.mono (N := N + 5 * i + 1 + 1 + 1 + 1 + 1) (by clean_wf) (by omega)
        · sizeOf_list_dec
        · injection z
      · skip
        clean_wf
        refine ⟨_, _, _, _, rfl, Dw.mono (N := N + 5 * i + 1 + 1 + 1 + 1 + 1) (by clean_wf) (by omega), ?_⟩
        sizeOf_list_dec
    · obtain ⟨x2, x3, x4, x5, rfl, dw, kp⟩ := hPv
      replace dw : Dw H' p q (N + 5 * 30) := dw
      clean_wf
      rw [n3 ind]
      cases ind
      · skip
        clean_wf
        refine kk _ _ 1 1 2 ?_ ?_ (by simp_wf) ⟨by decide, by decide, by decide, by decide +kernel⟩
        · exact Dw.mono (N := N + 5 * 30) (by clean_wf) (by omega)
        · sizeOf_list_dec
      · skip
        clean_wf
        refine kk _ _ 1 0 (-2) ?_ ?_ (by simp_wf) ⟨by decide, by decide, by decide, by decide +kernel⟩
        · exact Dw.mono (N := N + 5 * 30) (by clean_wf) (by omega)
        · sizeOf_list_dec
/-- the cells of a box that the walk has seen -/
def Seen (W h : Int) (i j : Nat) (v : Int × Int) : Prop := (-W ≤ v.1 ∧ v.1 < -W + i ∧ -h ≤ v.2 ∧ v.2 ≤ h) ∨ (v.1 = -W + i ∧ -h ≤ v.2 ∧ v.2 < -h + j)
structure SeI (a b c n W h : Int) (i j : Nat) (qs : List (Int × Int)) : Prop where
  up : qs.Pairwise ltp
  mem : ∀ v, v ∈ qs ↔ fA a b c v.1 v.2 = n ∧ Seen W h i j v
  len : (qs.length : Int) ≤ (i : Int) * (2 * h + 1) + j
theorem SeI.nil (a b c n W h : Int) : SeI a b c n W h 0 0 [] := ⟨.nil, fun v => ⟨fun x => absurd x List.not_mem_nil, fun ⟨_, s⟩ => by unfold Seen at s; omega⟩, by show (0 : Int) ≤ _; omega⟩
theorem SeI.yes {a b c n W h : Int} {i j : Nat} {qs : List (Int × Int)} (I : SeI a b c n W h i j qs) (hj : -h + j ≤ h) (e : fA a b c (-W + i) (-h + j) = n) : SeI a b c n W h i (j + 1) (qs ++ [(-W + i, -h + j)]) := by
  refine ⟨List.pairwise_append.mpr ⟨I.up, List.pairwise_singleton _ _, fun v hv w hw => ?_⟩, fun v => ?_, ?_⟩
  · rw [List.mem_singleton.mp hw]
    obtain ⟨_, s⟩ := (I.mem v).mp hv
    unfold Seen at s
    unfold ltp
    dsimp only
    omega
  · rw [List.mem_append, I.mem, List.mem_singleton]
    constructor
    · rintro (⟨h1, s⟩ | rfl)
      · exact ⟨h1, by unfold Seen at s ⊢; omega⟩
      · exact ⟨e, by unfold Seen; dsimp only; omega⟩
    · rintro ⟨h1, s⟩
      by_cases z : v = (-W + (i : Int), -h + (j : Int))
      · exact .inr z
      · refine .inl ⟨h1, ?_⟩
        have z2 : ¬ (v.1 = -W + (i : Int) ∧ v.2 = -h + (j : Int)) := fun ⟨a1, a2⟩ => z (Prod.ext a1 a2)
        unfold Seen at s ⊢
        omega
  · have := I.len
    rw [List.length_append, List.length_singleton]
    omega
theorem SeI.no {a b c n W h : Int} {i j : Nat} {qs : List (Int × Int)} (I : SeI a b c n W h i j qs) (hj : -h + j ≤ h) (e : ¬ fA a b c (-W + i) (-h + j) = n) : SeI a b c n W h i (j + 1) qs := by
  refine ⟨I.up, fun v => ?_, by have := I.len; omega⟩
  rw [I.mem]
  refine and_congr_right fun h1 => ?_
  have z2 : ¬ (v.1 = -W + (i : Int) ∧ v.2 = -h + (j : Int)) := fun ⟨a1, a2⟩ => e (by rw [← a1, ← a2]; exact h1)
  unfold Seen
  omega
theorem SeI.row {a b c n W h : Int} {i : Nat} {qs : List (Int × Int)} (h0 : 0 ≤ h) (I : SeI a b c n W h i (2 * h + 1).toNat qs) : SeI a b c n W h (i + 1) 0 qs := by
  refine ⟨I.up, fun v => ?_, ?_⟩
  · rw [I.mem]
    refine and_congr_right fun h1 => ?_
    unfold Seen
    omega
  · have := I.len
    have e : ((i + 1 : Nat) : Int) * (2 * h + 1) = (i : Int) * (2 * h + 1) + (2 * h + 1) := by
      rw [Int.natCast_add, Int.add_mul]
      omega
    rw [e]
    omega
/-- the box is wide enough -/
theorem in_box {a b c n x y E h : Int} (hE : 4 * a * c - b * b = E) (E0 : 0 < E) (e : fA a b c x y = n) (hh : h = rootI ((4 * ((a * n).natAbs : Int)).fdiv E + 1) + 1) : -h ≤ y ∧ y ≤ h := by
  have e1 : 4 * (a * n) = (2 * a * x + b * y) * (2 * a * x + b * y) + E * (y * y) := by
    rw [← e, ← hE]
    unfold fA
    grind
  have s1 := sqn (2 * a * x + b * y)
  have s2 := sqn y
  have e2 : E * (y * y) ≤ 4 * ((a * n).natAbs : Int) := by omega
  have e3 : y * y ≤ (4 * ((a * n).natAbs : Int)).fdiv E := by
    rw [Int.fdiv_eq_ediv_of_nonneg _ (by omega)]
    exact (Int.le_ediv_iff_mul_le E0).mpr (by rw [Int.mul_comm]; exact e2)
  have q0 : 0 ≤ (4 * ((a * n).natAbs : Int)).fdiv E := by omega
  generalize (4 * ((a * n).natAbs : Int)).fdiv E = q at *
  obtain ⟨r0, _, r2⟩ := rootI_spec (n := q + 1) (by omega)
  generalize rootI (q + 1) = r at *
  have key : (y.natAbs : Int) ≤ r := by
    by_cases z : (y.natAbs : Int) ≤ r
    · exact z
    · have h1 := Int.mul_le_mul (show r + 1 ≤ (y.natAbs : Int) by omega) (show r + 1 ≤ (y.natAbs : Int) by omega) (by omega) (by omega)
      have h2 : (y.natAbs : Int) * (y.natAbs : Int) = y * y := Int.natAbs_mul_self' y
      omega
  omega
def SeQ (H : Hp) (a b c n : Int) (Q : VK) : Prop := ∀ (H' : Hp) (D : Addr) (ws : List V) (qs : List (Int × Int)), Same H H' → H D = none → H' D = some (.lst ws) → Pd H' ws qs → qs.Pairwise ltp → (∀ v, v ∈ qs ↔ fA a b c v.1 v.2 = n) → Q (.ref D) H'
def spLawSearch (K : PySem.W.Frag) : Sp := fun vs H Q _ => ∃ (af : Addr) (a b c n : Int), vs = [.ref af, .int n] ∧ SqT K H af [.int a, .int b, .int c] ∧ dsc a b c < 0 ∧ a.natAbs ≤ 1000 ∧ b.natAbs ≤ 1000 ∧ c.natAbs ≤ 1000 ∧ n.natAbs ≤ 300 ∧ SeQ H a b c n Q
theorem uLawSearch {K : PySem.W.Frag} {H : Hp} {Q : VK} {E : XK} {vs : List V} {af : Addr} {a b c n : Int} (e : vs = [.ref af, .int n]) (hs : SqT K H af [.int a, .int b, .int c]) (d0 : dsc a b c < 0) (b1 : a.natAbs ≤ 1000) (b2 : b.natAbs ≤ 1000) (b3 : c.natAbs ≤ 1000) (bn : n.natAbs ≤ 300) (kk : SeQ H a b c n Q) : spLawSearch K vs H Q E := ⟨af, a, b, c, n, e, hs, d0, b1, b2, b3, bn, kk⟩
theorem okLawSearch (T : Txt K mg fa fd) : FnOk P w K mg base CX0 2 (fa 68) (fd 68) ["form", "n"] (spLawSearch K) := by
  refine T.F__law_search.ok scLawSearch (fun vs H Q E h => ?_) (fun cdv A outer s H vs Q E hr h => ?_)
  · obtain ⟨af, a, b, c, n, rfl, hs, d0, b1, b2, b3, bn, kk⟩ := h
    rfl
  · obtain ⟨af, a, b, c, n, rfl, hs, d0, b1, b2, b3, bn, kk⟩ := h
    refine ⟨_, (pss_cons (ps_set (i := 2) scLawSearch.nd rfl (Or.inl rfl) (pe_op op_sub (pe_op op_mulW (pe_op op_mulW pe_int (pe_ix (ixT K) (pv 0) pe_int (fun _ _ => rfl))) (pe_ix (ixT K) (pv 0) pe_int (fun _ _ => rfl))) (pe_op op_mulW (pe_ix (ixT K) (pv 0) pe_int (fun _ _ => rfl)) (pe_ix (ixT K) (pv 0) pe_int (fun _ _ => rfl)))))
      (pss_cons (ps_set (i := 3) scLawSearch.nd rfl (Or.inl rfl) (pe_lst pa_nil))
      (pss_cons (ps_set (i := 4) scLawSearch.nd rfl (Or.inl rfl) (pe_op op_add (pe_call (sp := spLawRoot K) (okLawRoot T) hr (by rfl) T.G__law_root T.F__law_root.kp T.B__law_root .nil pass0 (pa_cons (pe_op op_add (pe_op op_fdivX (pe_op op_mulW pe_int (pe_callB (absQ K) (by rfl) T.m_abs (by decide +kernel) (pa_cons (pe_op op_mulW (pe_ix (ixT K) (pv 0) pe_int (fun _ _ => rfl)) (pv 1)) pa_nil))) (pv 2)) pe_int) pa_nil)) pe_int))
      (pss_cons (ps_set (i := 5) scLawSearch.nd rfl (Or.inl rfl) (pe_op op_add (pe_call (sp := spLawRoot K) (okLawRoot T) hr (by rfl) T.G__law_root T.F__law_root.kp T.B__law_root .nil pass0 (pa_cons (pe_op op_add (pe_op op_fdivX (pe_op op_mulW pe_int (pe_callB (absQ K) (by rfl) T.m_abs (by decide +kernel) (pa_cons (pe_op op_mulW (pe_ix (ixT K) (pv 0) pe_int (fun _ _ => rfl)) (pv 1)) pa_nil))) (pv 2)) pe_int) pa_nil)) pe_int))
      (pss_cons (ps_for PassesOwn.never rfl (pi_range2 (by rfl) T.m_range (pa_cons (pe_un un_neg (pv 4)) (pa_cons (pe_op op_add (pv 4) pe_int) pa_nil))) (pg_name (i := 6) scLawSearch.nd rfl (Or.inl rfl))
      (pss_one (ps_for PassesOwn.never rfl (pi_range2 (by rfl) T.m_range (pa_cons (pe_un un_neg (pv 5)) (pa_cons (pe_op op_add (pv 5) pe_int) pa_nil))) (pg_name (i := 7) scLawSearch.nd rfl (Or.inl rfl))
        (pss_one (ps_if (pt_cmp (pc_eqI (pe_call (sp := spLawWorth K) (okLawWorth T) hr (by rfl) T.G__law_worth T.F__law_worth.kp T.B__law_worth .nil pass0 (pa_cons (pv 0) (pa_cons (pv 6) (pa_cons (pv 7) pa_nil)))) (pv 1)))
          (pss_one (ps_expr (pe_bm PySem.F.plainAttrs_list PySem.F.slot_list_append PySem.F.type_list_append mt_append (pv 3) (pa_cons (pe_tup (pa_cons (pv 6) (pa_cons (pv 7) pa_nil))) pa_nil))))
          pss_nil)))))
      (pss_one (ps_ret (pv 3)))))))), ?_⟩
    have ba : Bd 10 a := Nat.lt_of_le_of_lt b1 (by decide)
    have bb : Bd 10 b := Nat.lt_of_le_of_lt b2 (by decide)
    have bc : Bd 10 c := Nat.lt_of_le_of_lt b3 (by decide)
    have bn9 : Bd 10 n := Nat.lt_of_le_of_lt (show n.natAbs ≤ 1000 by omega) (by decide)
    have E0 : 0 < 4 * a * c - b * b := by
      unfold dsc at d0
      omega
    have E9 : 4 * a * c - b * b ≠ 0 := by omega
    have key : ∀ x : Int, x.natAbs ≤ 1000 → 0 ≤ (4 * ((x * n).natAbs : Int)).fdiv (4 * a * c - b * b) ∧ (4 * ((x * n).natAbs : Int)).fdiv (4 * a * c - b * b) ≤ 1200000 := fun x hx => by
      rw [Int.fdiv_eq_ediv_of_nonneg _ (by omega), Int.natAbs_mul]
      have h1 : x.natAbs * n.natAbs ≤ 1000 * 300 := Nat.mul_le_mul hx bn
      have h2 := Int.ediv_nonneg (a := 4 * ((x.natAbs * n.natAbs : Nat) : Int)) (b := 4 * a * c - b * b) (by omega) (by omega)
      have h3 := Int.ediv_le_self (a := 4 * ((x.natAbs * n.natAbs : Nat) : Int)) (4 * a * c - b * b) (by omega)
      exact ⟨h2, by omega⟩
    obtain ⟨c1, c2⟩ := key c b3
    obtain ⟨a1, a2⟩ := key a b1
    have rt : ∀ q : Int, 0 ≤ q → q ≤ 1200000 → 0 ≤ rootI (q + 1) ∧ rootI (q + 1) ≤ 1100 := fun q q0 q1 => by
      obtain ⟨r0, r1, _⟩ := rootI_spec (n := q + 1) (by omega)
      refine ⟨r0, ?_⟩
      by_cases z : rootI (q + 1) ≤ 1100
      · exact z
      · have := Int.mul_le_mul (show 1101 ≤ rootI (q + 1) by omega) (show 1101 ≤ rootI (q + 1) by omega) (by omega) (by omega)
        omega
    obtain ⟨rc0, rc1⟩ := rt _ c1 c2
    obtain ⟨ra0, ra1⟩ := rt _ a1 a2
    clean_wf
    obtain ⟨Wd, hW⟩ : ∃ x, rootI ((4 * ((c * n).natAbs : Int)).fdiv (4 * a * c - b * b) + 1) + 1 = x := ⟨_, rfl⟩
    obtain ⟨Hg, hH⟩ : ∃ x, rootI ((4 * ((a * n).natAbs : Int)).fdiv (4 * a * c - b * b) + 1) + 1 = x := ⟨_, rfl⟩
    rw [hW, hH]
    have W0 : 1 ≤ Wd ∧ Wd ≤ 1101 := by omega
    have H0 : 1 ≤ Hg ∧ Hg ≤ 1101 := by omega
    clear c1 c2 a1 a2 rc0 rc1 ra0 ra1 key rt
    have nD : H tn = none := nn
    generalize tn = D at *
    refine R.forN (lo := -Wd) (n := (Wd + 1 - -Wd).toNat) (fun i σ H' => ∃ (x6 x7 : Option V) (ws : List V) (qs : List (Int × Int)), σ = [some (.ref af), some (.int n), some (.int (4 * a * c - b * b)), some (.ref D), some (.int Wd), some (.int Hg), x6, x7] ∧ Same H H' ∧ H' D = some (.lst ws) ∧ Pd H' ws qs ∧ SeI a b c n Wd Hg i 0 qs)
      ⟨_, _, [], [], rfl, sn, ht, .nil, SeI.nil a b c n Wd Hg⟩ (fun i σ H' hi hPv => ?_) (fun σ H' hPv => ?_)
    · obtain ⟨x6, x7, ws, qs, rfl, sm, hD, pd, I⟩ := hPv
      have bx : Bd 20 (-Wd + (i : Int)) := Nat.lt_of_le_of_lt (show (-Wd + (i : Int)).natAbs ≤ 10000 by omega) (by decide)
      clean_wf
      refine R.forN (lo := -Hg) (n := (Hg + 1 - -Hg).toNat) (fun j σ H' => ∃ (x7 : Option V) (ws : List V) (qs : List (Int × Int)), σ = [some (.ref af), some (.int n), some (.int (4 * a * c - b * b)), some (.ref D), some (.int Wd), some (.int Hg), some (.int (-Wd + (i : Int))), x7] ∧ Same H H' ∧ H' D = some (.lst ws) ∧ Pd H' ws qs ∧ SeI a b c n Wd Hg i j qs)
        ⟨_, ws, qs, rfl, sm, hD, pd, I⟩ (fun j σ H' hj hPw => ?_) (fun σ H' hPw => ?_)
      · obtain ⟨x7, ws, qs, rfl, sm, hD, pd, I⟩ := hPw
        have by9 : Bd 20 (-Hg + (j : Int)) := Nat.lt_of_le_of_lt (show (-Hg + (j : Int)).natAbs ≤ 10000 by omega) (by decide)
        have hs2 := same_seqT sm hs
        have wl := pd.len
        have il := I.len
        have wl2 : ws.length ≤ 16000000 := by
          have h1 : (i : Int) * (2 * Hg + 1) ≤ 2300 * 2300 := Int.mul_le_mul (by omega) (by omega) (by omega) (by omega)
          omega
        clean_wf
        by_cases z : fA a b c (-Wd + (i : Int)) (-Hg + (j : Int)) = n
        · refine wayT z ?_
          clean_wf
          have hDN := sn _ _ hD
          refine R.app2 hDN wl2 (fun H6 e6 h6 => ?_)
          refine ⟨_, ws ++ [.ref tn], qs ++ [(-Wd + (i : Int), -Hg + (j : Int))], rfl, ?_, h6, ?_, I.yes (by omega) z⟩
          · rw [e6]
            exact same_mut (sm.trans sn) nD
          · rw [e6]
            refine ((pd.same sn).off hDN).snoc ?_
            rw [upd_ne (ne_of ht hDN (by intro z; cases z))]
            exact ht
        · refine wayF z ?_
          clean_wf
          exact ⟨_, ws, qs, rfl, sm, hD, pd, I.no (by omega) z⟩
      · obtain ⟨x7, ws, qs, rfl, sm, hD, pd, I⟩ := hPw
        rw [show (Hg + 1 - -Hg).toNat = (2 * Hg + 1).toNat by omega] at I
        exact ⟨_, _, ws, qs, rfl, sm, hD, pd, I.row (by omega)⟩
    · obtain ⟨x6, x7, ws, qs, rfl, sm, hD, pd, I⟩ := hPv
      clean_wf
      refine kk H' D ws qs sm nD hD pd I.up fun v => (I.mem v).trans ⟨fun h => h.1, fun e => ⟨e, ?_⟩⟩
      have yb := in_box (E := 4 * a * c - b * b) (h := Hg) rfl E0 e hH.symm
      have xb := in_box (a := c) (b := b) (c := a) (x := v.2) (y := v.1) (n := n) (E := 4 * a * c - b * b) (h := Wd) (by rw [Int.mul_assoc, Int.mul_comm c a, ← Int.mul_assoc]) E0 (by rw [← e]; unfold fA; grind) hW.symm
      unfold Seen
      omega
def spLaw (K : PySem.W.Frag) : Sp := fun vs H Q _ => ∃ (a : Addr) (ns : List Int), vs = [.ref a] ∧ SqL K H a (ns.map V.int) ∧ ns.length ≤ 63 ∧ ∀ H', Q (.bl true) H'
theorem okLaw (T : Txt K mg fa fd) : FnOk P w K mg base CX0 14 (fa 69) (fd 69) ["script"] (spLaw K) := by
  refine T.F_law.ok scLaw (fun vs H Q E h => ?_) (fun cdv A outer s H vs Q E hr h => ?_)
  · obtain ⟨l, ns, rfl, hS, hlen, qq⟩ := h
    rfl
  · obtain ⟨l, ns, rfl, hS, hlen, qq⟩ := h
    refine ⟨_, (pss_cons (ps_set (i := 1) scLaw.nd rfl (Or.inl rfl) (pe_call (sp := spLawState K) (okLawState T) (hr.mono (by decide)) (by rfl) T.G__law_state T.F__law_state.kp T.B__law_state .nil pass0 (pa_cons (pv 0) pa_nil)))
      (pss_cons (ps_set (i := 2) scLaw.nd rfl (Or.inr rfl) (pe_ix (ixL K) (pe_lst (pa_cons pe_int (pa_cons pe_int (pa_cons pe_int (pa_cons pe_int pa_nil))))) (pe_call (sp := spLawNext K) (okLawNext T) (hr.mono (by decide)) (by rfl) T.G__law_next T.F__law_next.kp T.B__law_next .nil pass0 (pa_cons (pv 1) (pa_cons pe_int pa_nil))) (fun _ _ => rfl)))
      (pss_cons (ps_set (i := 3) scLaw.nd rfl (Or.inl rfl) (pe_callTy (tupQ K) (by rfl) T.m_tuple (by decide +kernel) (pa_cons (pe_lc (own := [("part", 12)]) (g := gName 12) (tt := tYes) rfl scLaw.nd (piT K (pe_call (sp := spLawAct K) (okLawAct T) (hr.mono (by decide)) (by rfl) T.G__law_act T.F__law_act.kp T.B__law_act .nil pass0 (pa_cons (pe_call (sp := spLawForm K) (okLawForm T) (hr.mono (by decide)) (by rfl) T.G__law_form T.F__law_form.kp T.B__law_form .nil pass0 (pa_cons (pv 1) (pa_cons pe_str pa_nil))) (pa_cons (pe_call (sp := spLawChange K) (okLawChange T) (hr.mono (by decide)) (by rfl) T.G__law_change T.F__law_change.kp T.B__law_change .nil pass0 (pa_cons (pv 1) (pa_cons pe_int pa_nil))) pa_nil)))) (blkOk_by (own := [("part", 12)]) (N := ["script", "state", "g", "form", "n", "due", "made", "told", "x", "y", "d", "rows", "part", "m", "b"]) (sc := defScope sLaw) (by decide +kernel)) (fun _ _ _ _ _ => (pg_name (i := 12) scLaw.nd rfl (Or.inl rfl))) (fun _ _ _ _ _ => pts_nil) (fun _ _ _ _ _ => (pe_op op_mulW (pv 2) (pv 12)))) pa_nil)))
      (pss_cons (ps_set (i := 4) scLaw.nd rfl (Or.inr rfl) (pe_call (sp := spLawWorth K) (okLawWorth T) (hr.mono (by decide)) (by rfl) T.G__law_worth T.F__law_worth.kp T.B__law_worth .nil pass0 (pa_cons (pv 3) (pa_cons (pe_op op_sub (pe_call (sp := spLawNext K) (okLawNext T) (hr.mono (by decide)) (by rfl) T.G__law_next T.F__law_next.kp T.B__law_next .nil pass0 (pa_cons (pv 1) (pa_cons pe_int pa_nil))) pe_int) (pa_cons (pe_op op_sub (pe_call (sp := spLawNext K) (okLawNext T) (hr.mono (by decide)) (by rfl) T.G__law_next T.F__law_next.kp T.B__law_next .nil pass0 (pa_cons (pv 1) (pa_cons pe_int pa_nil))) pe_int) pa_nil)))))
      (C8.pss_cut (ps_if (PW.pt (pw_or (pt_cmp (pc_eqI (pe_call (sp := spLawNext K) (okLawNext T) (hr.mono (by decide)) (by rfl) T.G__law_next T.F__law_next.kp T.B__law_next .nil pass0 (pa_cons (pv 1) (pa_cons pe_int pa_nil))) pe_int)) (pw_or (pt_cmp (pc_gt (pe_callB (absQ K) (by rfl) T.m_abs (by decide +kernel) (pa_cons (pv 4) pa_nil)) pe_int)) (pw_or1 (pt_cmp (pc_eqI (pv 4) pe_int))))))
      (pss_one (ps_set (i := 4) scLaw.nd rfl (Or.inr rfl) (pe_op op_mulW (pe_op op_add pe_int (pe_call (sp := spLawNext K) (okLawNext T) (hr.mono (by decide)) (by rfl) T.G__law_next T.F__law_next.kp T.B__law_next .nil pass0 (pa_cons (pv 1) (pa_cons pe_int pa_nil)))) (pe_ix (ixL K) (pe_lst (pa_cons pe_int (pa_cons (pe_un un_neg pe_int) pa_nil))) (pe_call (sp := spLawNext K) (okLawNext T) (hr.mono (by decide)) (by rfl) T.G__law_next T.F__law_next.kp T.B__law_next .nil pass0 (pa_cons (pv 1) (pa_cons pe_int pa_nil))) (fun _ _ => rfl)))))
      pss_nil)
      (pss_cons (ps_set (i := 5) scLaw.nd rfl (Or.inl rfl) (pe_call (sp := spLawSearch K) (okLawSearch T) (hr.mono (by decide)) (by rfl) T.G__law_search T.F__law_search.kp T.B__law_search .nil pass0 (pa_cons (pv 3) (pa_cons (pv 4) pa_nil))))
      (pss_cons (ps_if (PW.pt (pw_or (pt_cmpR (neDQ K hr.units) (pe_call (sp := spDefinitePoints K) (okDefinitePoints T) hr (by rfl) T.G_definite_points T.F_definite_points.kp T.B_definite_points .nil pass0 (pa_cons (pv 3) (pa_cons (pv 4) pa_nil))) (pv 5) (nomark _)) (pw_or (pt_cmpR (notInQ K) (pe_call (sp := spIsRepresented K) (okIsRepresented T) hr (by rfl) T.G_is_represented T.F_is_represented.kp T.B_is_represented .nil pass0 (pa_cons (pv 3) (pa_cons (pv 4) pa_nil))) (pe_lst (pa_cons (pe_cmpR (neDQ K hr.units) (pv 5) (pe_lst pa_nil) (nomark _)) pa_nil)) (by with_unfolding_all rfl)) (pw_or1 (pt_not (pt_val (pe_callB (isiQ K) (by rfl) T.m_isinstance (by decide +kernel) (pa_cons (pe_call (sp := spIsRepresented K) (okIsRepresented T) hr (by rfl) T.G_is_represented T.F_is_represented.kp T.B_is_represented .nil pass0 (pa_cons (pv 3) (pa_cons (pv 4) pa_nil))) (pa_cons (pe_bltn (v := .ty "bool") (by rfl) T.m_bool (by decide +kernel) rfl) pa_nil)))))))))
      (pss_one (ps_ret pe_bl))
      pss_nil)
      (pss_cons (ps_set (i := 6) scLaw.nd rfl (Or.inl rfl) (pe_lst pa_nil))
      (pss_cons (ps_expr (pe_bm PySem.F.plainAttrs_list PySem.F.slot_list_append PySem.F.type_list_append mt_append (pe_call (sp := spFirstPoints K) (okFirstPoints T) (hr.mono (by decide)) (by rfl) T.G_first_points T.F_first_points.kp T.B_first_points .nil pass0 (pa_cons (pv 3) (pa_cons (pv 4) pa_nil))) (pa_cons (pe_tup (pa_cons pe_int (pa_cons pe_int pa_nil))) pa_nil)))
      (pss_cons (ps_set (i := 7) scLaw.nd rfl (Or.inl rfl) (pe_call (sp := spFirstPoints K) (okFirstPoints T) (hr.mono (by decide)) (by rfl) T.G_first_points T.F_first_points.kp T.B_first_points .nil pass0 (pa_cons (pv 3) (pa_cons (pv 4) pa_nil))))
      (pss_cons (ps_for PassesOwn.never rfl (piL K (pv 7)) (pgT K 2 (by rfl) (pgs_cons (pg_name (i := 8) scLaw.nd rfl (Or.inr rfl)) (pgs_cons (pg_name (i := 9) scLaw.nd rfl (Or.inr rfl)) pgs_nil)))
      (pss_cons (ps_if (pt_cmpR (notInDQ K (room65 hr)) (pe_tup (pa_cons (pv 8) (pa_cons (pv 9) pa_nil))) (pv 7) (by with_unfolding_all rfl))
        (pss_one (ps_ret pe_bl))
        pss_nil)
        (pss_one (ps_set (i := 6) scLaw.nd rfl (Or.inl rfl) (pe_op op_cat (pv 6) (pe_lc (own := [("m", 13)]) (g := gName 13) (tt := tYes) rfl scLaw.nd (piL K (pe_ix (ixT K) (pe_call (sp := spSelfGroup K) (okSelfGroup T) (hr.mono (by decide)) (by rfl) T.G_self_group T.F_self_group.kp T.B_self_group .nil pass0 (pa_cons (pv 3) pa_nil)) pe_int (fun _ _ => rfl))) (blkOk_by (own := [("m", 13)]) (N := ["script", "state", "g", "form", "n", "due", "made", "told", "x", "y", "d", "rows", "part", "m", "b"]) (sc := defScope sLaw) (by decide +kernel)) (fun _ _ _ _ _ => (pg_name (i := 13) scLaw.nd rfl (Or.inl rfl))) (fun _ _ _ _ _ => pts_nil) (fun _ _ _ _ _ => (pe_call (sp := spLawAt K) (okLawAt T) (hr.mono (by decide)) (by rfl) T.G__law_at T.F__law_at.kp T.B__law_at .nil pass0 (pa_cons (pv 13) (pa_cons (pv 8) (pa_cons (pv 9) pa_nil)))))))))))
      (pss_cons (ps_if (pt_cmpR (neDQ K hr.units) (pe_callB (srtPQ K) (by rfl) T.m_sorted (by decide +kernel) (pa_cons (pv 6) pa_nil)) (pv 5) (nomark _))
      (pss_one (ps_ret pe_bl))
      pss_nil)
      (pss_cons (ps_set (i := 10) scLaw.nd rfl (Or.inr rfl) (pe_op op_sub (pe_op op_mulW (pe_ix (ixT K) (pv 3) pe_int (fun _ _ => rfl)) (pe_ix (ixT K) (pv 3) pe_int (fun _ _ => rfl))) (pe_op op_mulW (pe_op op_mulW pe_int (pe_ix (ixT K) (pv 3) pe_int (fun _ _ => rfl))) (pe_ix (ixT K) (pv 3) pe_int (fun _ _ => rfl)))))
      (pss_cons (ps_set (i := 4) scLaw.nd rfl (Or.inr rfl) (pe_op op_mulW (pe_op op_add pe_int (pe_call (sp := spLawNext K) (okLawNext T) (hr.mono (by decide)) (by rfl) T.G__law_next T.F__law_next.kp T.B__law_next .nil pass0 (pa_cons (pv 1) (pa_cons pe_int pa_nil)))) (pe_ix (ixL K) (pe_lst (pa_cons pe_int (pa_cons (pe_un un_neg pe_int) pa_nil))) (pe_call (sp := spLawNext K) (okLawNext T) (hr.mono (by decide)) (by rfl) T.G__law_next T.F__law_next.kp T.B__law_next .nil pass0 (pa_cons (pv 1) (pa_cons pe_int pa_nil))) (fun _ _ => rfl))))
      (pss_cons (ps_setLc (i := 11) (own := [("b", 14)]) (g := gName 14)  rfl scLaw.nd rfl rfl (sw_true rfl rfl rfl (by decide +kernel)) (pi_range1 (by rfl) T.m_range (pa_cons (pe_op op_mulW pe_int (pe_callB (absQ K) (by rfl) T.m_abs (by decide +kernel) (pa_cons (pv 4) pa_nil))) pa_nil)) (blkOk_by (own := [("b", 14)]) (N := ["script", "state", "g", "form", "n", "due", "made", "told", "x", "y", "d", "rows", "part", "m", "b"]) (sc := defScope sLaw) (by decide +kernel)) (fun _ _ _ _ _ => (pg_name (i := 14) scLaw.nd rfl (Or.inl rfl))) (fun _ _ _ _ _ => (pts_one (pt_cmp (pc_eqI (pe_op op_modN (pe_op op_sub (pe_op op_mulW (pv 14) (pv 14)) (pv 10)) (pe_op op_mulW pe_int (pv 4))) pe_int)))) (fun _ _ _ _ _ => (pe_tup (pa_cons (pv 4) (pa_cons (pv 14) (pa_cons (pe_op op_fdivX (pe_op op_sub (pe_op op_mulW (pv 14) (pv 14)) (pv 10)) (pe_op op_mulW pe_int (pv 4))) pa_nil))))))
      (pss_cons (ps_expr (pe_bm PySem.F.plainAttrs_list PySem.F.slot_list_append PySem.F.type_list_append mt_append (pe_call (sp := spRootedForms K) (okRootedForms T) (hr.mono (by decide)) (by rfl) T.G_rooted_forms T.F_rooted_forms.kp T.B_rooted_forms .nil pass0 (pa_cons (pv 10) (pa_cons (pv 4) pa_nil))) (pa_cons (pe_tup (pa_cons pe_int (pa_cons pe_int (pa_cons pe_int pa_nil)))) pa_nil)))
      (pss_cons (ps_expr (pe_bm PySem.F.plainAttrs_list PySem.F.slot_list_append PySem.F.type_list_append mt_append (pe_call (sp := spDefinitePoints K) (okDefinitePoints T) hr (by rfl) T.G_definite_points T.F_definite_points.kp T.B_definite_points .nil pass0 (pa_cons (pv 3) (pa_cons (pv 4) pa_nil))) (pa_cons (pe_tup (pa_cons pe_int (pa_cons pe_int pa_nil))) pa_nil)))
      (pss_one (ps_ret (pe_cmpR (eqDQ K hr.units) (pe_call (sp := spRootedForms K) (okRootedForms T) (hr.mono (by decide)) (by rfl) T.G_rooted_forms T.F_rooted_forms.kp T.B_rooted_forms .nil pass0 (pa_cons (pv 10) (pa_cons (pv 4) pa_nil))) (pv 11) (nomark _))))))))))))))))))))), ?_⟩
    clean_wf
    refine ⟨l, ns, rfl, hS, fun H1 p q s1 d1 => ?_⟩
    clean_wf
    intro r1 H2 r1a r1b d2 k2
    have np : tn ≠ p := fresh_ne nn d1
    have hl := k2 _ _ np ht
    obtain ⟨gv, hgv, gv1, gv3⟩ : ∃ gv : Int, atI [V.int 1, V.int 1, V.int 2, V.int 3] r1 = some (.int gv) ∧ 1 ≤ gv ∧ gv ≤ 3 := by
      obtain rfl | rfl | rfl | rfl : r1 = 0 ∨ r1 = 1 ∨ r1 = 2 ∨ r1 = 3 := by omega
      · exact ⟨1, rfl, by omega, by omega⟩
      · exact ⟨1, rfl, by omega, by omega⟩
      · exact ⟨2, rfl, by omega, by omega⟩
      · exact ⟨3, rfl, by omega, by omega⟩
    refine R.ixL (SqL.of hl) hgv ?_
    clear hl hgv np ht nn sn k2 d1 s1 r1a r1b
    clean_wf
    refine uLawForm false rfl d2 (by decide) ?_
    intro H4 tf a b c d4 k4 sF F
    have fa1 : Bd 10 a := Bd.of F.1 (by decide)
    have fb1 : Bd 10 b := Bd.of F.2.1 (by decide)
    have fc1 : Bd 10 c := Bd.of F.2.2.1 (by decide)
    clean_wf
    intro H5 tm m1 m2 m3 m4 d5 k5 s5 l5
    have l5 := l5.mono (show Int.toNat 1 ≤ 1 by decide)
    obtain ⟨g1, g2, g3, g4⟩ := l5.bd (by decide)
    have sz := act_size (a := a) (b := b) (c := c) (C := 6) (M := 3) (by have := F.1; omega) F.2.1 (by have := F.2.2.1; omega) l5.2.1 l5.2.2.1 l5.2.2.2.1 l5.2.2.2.2
    have hdd : dsc (fA a b c m1 m3) (fB a b c m1 m2 m3 m4) (fA a b c m2 m4) = dsc a b c := by rw [dsc_act, l5.1, Int.mul_one, Int.mul_one]
    have dneg : dsc a b c < 0 ∧ -100 ≤ dsc a b c := by
      have k9 := F.2.2.2
      have k9 : kindS (dsc a b c) = "definite" := k9
      refine ⟨?_, ?_⟩
      · unfold kindS at k9
        by_cases z : dsc a b c < 0
        · exact z
        · rw [if_neg z] at k9
          by_cases y : dsc a b c = 0
          · rw [if_pos y] at k9
            exact absurd k9 (by decide)
          · rw [if_neg y] at k9
            split at k9
            · exact absurd k9 (by decide)
            · exact absurd k9 (by decide)
      · have e1 : (a * c).natAbs ≤ 25 := by
          rw [Int.natAbs_mul]
          exact Nat.mul_le_mul F.1 F.2.2.1
        have e2 := sqn b
        unfold dsc
        rw [Int.mul_assoc]
        omega
    clean_wf
    have sT : SqT K HN tn [.int (fA a b c m1 m3), .int (fB a b c m1 m2 m3 m4), .int (fA a b c m2 m4)] := SqT.of ht
    have dN := d5.same sn
    clear ht s5 sF g1 g2 g3 g4 fa1 fb1 fc1 sn d5 d4 d2 k5 k4 l5
    generalize fA a b c m1 m3 = x at *
    generalize fB a b c m1 m2 m3 m4 = y at *
    generalize fA a b c m2 m4 = z at *
    generalize tn = tG at *
    generalize HN = H6 at *
    obtain ⟨z1, z2, z3⟩ := sz
    have bx : Bd 60 x := Bd.om (by omega)
    have by9 : Bd 60 y := Bd.om (by omega)
    have bz : Bd 60 z := Bd.om (by omega)
    refine R.refs (S := SqT K _) (xs := [.int x, .int y, .int z]) sT ?_
    refine R.lcT (ns := [x, y, z]) (fun w => gv * w) (by show 3 ≤ 900; decide) sT (fun n H' Q' hn sm qx => ?_) (fun H7 D2 hD2 s7 nD2 => ?_)
    · have bn : Bd 60 n := by
        simp only [List.mem_cons, List.not_mem_nil, or_false] at hn
        rcases hn with rfl | rfl | rfl
        · exact bx
        · exact by9
        · exact bz
      have bgv : Bd 10 gv := Bd.of (m := 3) (by omega) (by decide)
      clean_wf
      refine ⟨rfl, ?_⟩
      clean_wf
    replace hD2 : H7 D2 = some (.lst [.int (gv * x), .int (gv * y), .int (gv * z)]) := hD2
    have dN7 := dN.same s7
    clear nD2 sT s7 dN
    clean_wf
    have sF : SqT K HN tn [.int (gv * x), .int (gv * y), .int (gv * z)] := SqT.of ht
    have dc := dN7.same sn
    have edd : dsc (gv * x) (gv * y) (gv * z) = gv * gv * dsc a b c := by
      rw [← hdd]
      unfold dsc
      grind
    have gg1 : 1 ≤ gv * gv := Int.mul_le_mul gv1 gv1 (by omega) (by omega)
    have gg2 : gv * gv ≤ 9 := Int.mul_le_mul gv3 gv3 (by omega) (by omega)
    have dA : dsc (gv * x) (gv * y) (gv * z) < 0 := by
      rw [edd]
      exact Int.mul_neg_of_pos_of_neg (by omega) dneg.1
    have dB : -10000 ≤ dsc (gv * x) (gv * y) (gv * z) := by
      rw [edd]
      have := Int.mul_le_mul_of_nonpos_right gg2 (show dsc a b c ≤ 0 by omega)
      omega
    have nA : (gv * x).natAbs ≤ 1000 := by rw [Int.natAbs_mul]; exact Nat.le_trans (Nat.mul_le_mul (show gv.natAbs ≤ 3 by omega) (show x.natAbs ≤ 162 by omega)) (by decide)
    have nB : (gv * y).natAbs ≤ 1000 := by rw [Int.natAbs_mul]; exact Nat.le_trans (Nat.mul_le_mul (show gv.natAbs ≤ 3 by omega) (show y.natAbs ≤ 324 by omega)) (by decide)
    have nC : (gv * z).natAbs ≤ 1000 := by rw [Int.natAbs_mul]; exact Nat.le_trans (Nat.mul_le_mul (show gv.natAbs ≤ 3 by omega) (show z.natAbs ≤ 162 by omega)) (by decide)
    have npt : tn ≠ p := fresh_ne nn dN7
    clear ht sn nn hD2 dN7 edd gg1 gg2 hdd dneg z1 z2 z3 bx by9 bz F
    generalize gv * x = A at *
    generalize gv * y = B at *
    generalize gv * z = C at *
    generalize tn = tF at *
    generalize HN = H8 at *
    have bA : Bd 12 A := Bd.of nA (by decide)
    have bB : Bd 12 B := Bd.of nB (by decide)
    have bC : Bd 12 C := Bd.of nC (by decide)
    intro r2 H9 r2a r2b d9 k9
    have sF := kp_seqT k9 dc sF
    clear dc k9
    clean_wf
    intro r3 H10 r3a r3b d10 k10
    have sF := kp_seqT k10 d9 sF
    clear d9 k10
    have b2 : Bd 5 (r2 - 4) := Bd.of (m := 10) (by omega) (by decide)
    have b3 : Bd 5 (r3 - 4) := Bd.of (m := 10) (by omega) (by decide)
    clean_wf
    generalize hw : A * (r2 - 4) * (r2 - 4) + B * (r2 - 4) * (r3 - 4) + C * (r3 - 4) * (r3 - 4) = n0
    have bn0 : Bd 40 n0 := by
      rw [← hw]
      exact ((((bA.mul b2).mul b2).add ((bB.mul b2).mul b3)).add ((bC.mul b3).mul b3)).mono (by decide)
    clear hw
    have dc := d10.mono (show _ ≤ 400 by omega)
    clear d10
    refine R.cut (Mid := fun σ H' => ∃ n : Int, σ = [some (.ref l), some (.ref p), some (.int gv), some (.ref tF), some (.int n), none, none, none, none, none, none, none, none, none, none] ∧ n ≠ 0 ∧ n.natAbs ≤ 300 ∧ SqT K H' tF [.int A, .int B, .int C] ∧ Dw H' p q 500) ?_ (fun σ H' hM => ?_)
    · skip
      clean_wf
      intro r4 H11 r4a r4b d11 k11
      have sF := kp_seqT k11 dc sF
      clean_wf
      refine way2 (fun z1 => ?_) (fun z1 => ?_)
      · skip
        clean_wf
        intro r5 H12 r5a r5b d12 k12
        have sF := kp_seqT k12 d11 sF
        clean_wf
        intro r6 H13 r6a r6b d13 k13
        have npl : tn ≠ p := fresh_ne nn d12
        have hl := k13 _ _ npl ht
        have sF := kp_seqT k13 (d12.same sn) (same_seqT sn sF)
        obtain ⟨v, hv, hat⟩ := sgn_at r6a r6b
        refine R.ixL (SqL.of hl) hat ?_
        have b5 : Bd 12 (1 + r5) := Bd.of (m := 301) (by omega) (by decide)
        have bv : Bd 2 v := Bd.of (m := 1) (by omega) (by decide)
        clean_wf
        refine ⟨(1 + r5) * v, rfl, ?_, ?_, sF, d13.mono (by omega)⟩
        · rcases hv with rfl | rfl <;> omega
        · rcases hv with rfl | rfl <;> omega
      · skip
        clean_wf
        refine way2 (fun z2 => ?_) (fun z2 => ?_)
        · skip
          clean_wf
          intro r5 H12 r5a r5b d12 k12
          have sF := kp_seqT k12 d11 sF
          clean_wf
          intro r6 H13 r6a r6b d13 k13
          have npl : tn ≠ p := fresh_ne nn d12
          have hl := k13 _ _ npl ht
          have sF := kp_seqT k13 (d12.same sn) (same_seqT sn sF)
          obtain ⟨v, hv, hat⟩ := sgn_at r6a r6b
          refine R.ixL (SqL.of hl) hat ?_
          have b5 : Bd 12 (1 + r5) := Bd.of (m := 301) (by omega) (by decide)
          have bv : Bd 2 v := Bd.of (m := 1) (by omega) (by decide)
          clean_wf
          refine ⟨(1 + r5) * v, rfl, ?_, ?_, sF, d13.mono (by omega)⟩
          · rcases hv with rfl | rfl <;> omega
          · rcases hv with rfl | rfl <;> omega
        · skip
          clean_wf
          refine way2 (fun z3 => ?_) (fun z3 => ?_)
          · skip
            clean_wf
            intro r5 H12 r5a r5b d12 k12
            have sF := kp_seqT k12 d11 sF
            clean_wf
            intro r6 H13 r6a r6b d13 k13
            have npl : tn ≠ p := fresh_ne nn d12
            have hl := k13 _ _ npl ht
            have sF := kp_seqT k13 (d12.same sn) (same_seqT sn sF)
            obtain ⟨v, hv, hat⟩ := sgn_at r6a r6b
            refine R.ixL (SqL.of hl) hat ?_
            have b5 : Bd 12 (1 + r5) := Bd.of (m := 301) (by omega) (by decide)
            have bv : Bd 2 v := Bd.of (m := 1) (by omega) (by decide)
            clean_wf
            refine ⟨(1 + r5) * v, rfl, ?_, ?_, sF, d13.mono (by omega)⟩
            · rcases hv with rfl | rfl <;> omega
            · rcases hv with rfl | rfl <;> omega
          · skip
            clean_wf
            exact ⟨n0, rfl, z3, by omega, sF, d11.mono (by omega)⟩
    · obtain ⟨n, rfl, n0, nb, sF, dc⟩ := hM
      obtain ⟨g, f0, ef, d0, g0, gl, fok⟩ := fp_def dA dB nA nB nC
      have ok := fok n n0 (by omega)
      have sf : SqT K H' tF ((fL (scF g f0)).map V.int) := by rw [ef]; exact sF
      have vf : ∀ v, vF (scF g f0) v = fA A B C v.1 v.2 := fun v => by rw [ef]; rfl
      clear gl r2a r2b r3a r3b b2 b3 bn0
      clean_wf
      refine uLawSearch rfl sF dA nA nB nC nb ?_
      intro H1 lD wD qD s1 nD hD pD upD memD
      have dc := dc.same s1
      have npd : lD ≠ p := fresh_ne nD (by assumption)
      have sF := same_seqT s1 sF
      have sf := same_seqT s1 sf
      clean_wf
      refine uDefinitePoints rfl sf ok d0 (by omega) ?_
      intro H2 l2 w2 q2 s2 n2 h2 p2 up2 mem2 _
      have eq2 : q2 = qD := ltp_ext up2 upD fun v => by rw [mem2, vf, memD]
      have sF := same_seqT s2 sF
      have sf := same_seqT s2 sf
      have hD := s2 _ _ hD
      have pD := pD.same s2
      have dc := dc.same s2
      clean_wf
      refine R.neTps (SqL.of h2) p2.tps (SqL.of hD) pD.tps ?_
      rw [eq2, decide_eq_true rfl]
      clear h2 p2 up2 mem2 eq2 n2 s2
      clean_wf
      refine uIsRepresented rfl sf ok ?_
      intro H3 b3 s3 hb3
      have eb : b3 = !decide (qD.map pL = []) := by
        have k1 : (∃ v, vF (scF g f0) v = n) ↔ qD ≠ [] := by
          constructor
          · rintro ⟨v, e⟩ z
            rw [vf] at e
            have := (memD v).mpr e
            rw [z] at this
            cases this
          · intro z
            cases qD with
            | nil => exact absurd rfl z
            | cons v qs => exact ⟨v, by rw [vf]; exact (memD v).mp List.mem_cons_self⟩
        rw [k1] at hb3
        by_cases z : qD = []
        · rw [z, List.map_nil, decide_eq_true rfl]
          cases b3 with
          | false => rfl
          | true => exact absurd z (hb3.mp rfl)
        · rw [decide_eq_false (fun h => z (List.map_eq_nil_iff.mp h))]
          exact hb3.mpr z
      have sF := same_seqT s3 sF
      have sf := same_seqT s3 sf
      have hD := s3 _ _ hD
      have pD := pD.same s3
      have dc := dc.same s3
      clean_wf
      refine R.neTps (ts := qD.map pL) (us := []) (SqL.of (sn _ _ hD)) (pD.same sn).tps (SqL.of ht) .nil ?_
      rw [← eb]
      have sF := same_seqT sn sF
      have sf := same_seqT sn sf
      have hD := sn _ _ hD
      have pD := pD.same sn
      have dc := dc.same sn
      clear ht nn s3 sn
      clean_wf
      refine R.notInB (SqL.of ht) ?_
      have sF := same_seqT sn sF
      have sf := same_seqT sn sf
      have hD := sn _ _ hD
      have pD := pD.same sn
      have dc := dc.same sn
      clear ht nn sn
      clean_wf
      refine uIsRepresented rfl sf ok ?_
      intro H4 b4 s4 _
      have sF := same_seqT s4 sF
      have sf := same_seqT s4 sf
      have hD := s4 _ _ hD
      have pD := pD.same s4
      have dc := dc.same s4
      clean_wf
      have hM := ht
      have sF := same_seqT sn sF
      have sf := same_seqT sn sf
      have hD := sn _ _ hD
      have pD := pD.same sn
      have dc := dc.same sn
      clear ht sn nn s4
      generalize tn = lM at *
      generalize HN = Ha at *
      refine uFirstPoints rfl sf ok ?_
      intro H5 l5 y5 p5 s5 n5 h5 pd5 _ _ ln5
      have y5l : y5.length ≤ 16000000 := by
        rw [pd5.len]
        omega
      refine R.bmT h5 ?_
      clean_wf
      refine R.app2 (sn _ _ h5) y5l (fun H6 e6 h6 => ?_)
      have s6 := same_mut (s5.trans sn) n5 (o := .lst (y5 ++ [.ref tn]))
      rw [← e6] at s6
      have sF := same_seqT s6 sF
      have sf := same_seqT s6 sf
      have hD := s6 _ _ hD
      have pD := pD.same s6
      have dc := dc.same s6
      have hM := s6 _ _ hM
      clear h6 e6 s6 ht sn nn h5 pd5 n5 y5l ln5 s5
      clean_wf
      refine uFirstPoints rfl sf ok ?_
      intro H7 lT yT pts sT nT hT pT7 F7 pb7 ln7
      have sF := same_seqT sT sF
      have sf := same_seqT sT sf
      have hD := sT _ _ hD
      have pD := pD.same sT
      have dc := dc.same sT
      have hM := sT _ _ hM
      clear sT nT
      have tl := pT7.len
      have gm : ∀ m, m ∈ gsF f0 ↔ Fx (scF g f0) m := fun m => (gs_mem ok.p1 d0 m).trans (fx_sc (by omega)).symm
      have gnd := gs_nodup ok.ns.a0
      have glen := gs_len f0
      have gbd := gs_bd ok.b1 ok.b2 ok.b3
      have ond := orb_nodup (n := n) gm gnd F7.one F7.fre
      have omem := orb_mem gm F7
      clean_wf
      refine R.refs (S := SqL K _) (xs := yT) (SqL.of hT) ?_
      refine for_list (K := K) (a := lT) (xs := yT) (fun i σ H' => ∃ (x8 x9 : Option V) (lm : Addr) (ws : List V), σ = [some (.ref l), some (.ref p), some (.int gv), some (.ref tF), some (.int n), some (.ref lD), some (.ref lm), some (.ref lT), x8, x9, none, none, none, none, none] ∧ Same H7 H' ∧ H' lm = some (.lst ws) ∧ Pd H' ws (orbL (gsF f0) (pts.take i)))
        ⟨_, _, lM, [], rfl, Same.refl _, hM, .nil⟩ (fun i σ H' hi hPv => ?_) (fun i x σ H' hx hPv => ?_) (fun σ H' hPv => ?_)
      · obtain ⟨x8, x9, lm, ws, rfl, sm, hm, pm⟩ := hPv
        exact SqL.of (sm _ _ hT)
      · obtain ⟨x8, x9, lm, ws, rfl, sm, hm, pm⟩ := hPv
        obtain ⟨ax, pp, rfl, hpp, hpt⟩ := pT7.atx hx
        have tk : pts.take (i + 1) = pts.take i ++ [pp] := by
          rw [List.take_add_one, hpp]
          rfl
        have pmem := List.mem_of_getElem? hpp
        obtain ⟨pb1, pb2⟩ := pb7 pp pmem
        obtain ⟨u1, u2⟩ := pp
        have hT9 := sm _ _ hT
        have pT9 := pT7.same sm
        have sf9 := same_seqT sm sf
        have hpt : SqT K H' ax [.int u1, .int u2] := SqT.of (sm _ _ hpt)
        clean_wf
        refine R.notInT (t := [u1, u2]) (SqT.of ht) (SqL.of (sn _ _ hT9)) (pT9.same sn).tps ?_
        have hin : [u1, u2] ∈ pts.map pL := List.mem_map.mpr ⟨(u1, u2), pmem, rfl⟩
        rw [decide_eq_true hin]
        have sf9 := same_seqT sn sf9
        have hm9 := sn _ _ hm
        have pm9 := pm.same sn
        have sm9 := sm.trans sn
        clear ht sn nn pT9 hT9 hx hpt pm hm sm
        clean_wf
        refine uSelfGroup rfl sf9 ok d0 ?_
        intro Hs ts ls zs ss ns hts hls tps
        have zl := tps.len
        rw [List.length_map] at zl
        have hm9 := ss _ _ hm9
        have pm9 := pm9.same ss
        have sm9 := sm9.trans ss
        clear ss ns sf9
        clean_wf
        refine R.refs (S := SqL K _) (xs := zs) (SqL.of hls) ?_
        refine R.lcPr (fun j => apM ((gsF f0).getD j (1, 0, 0, 1)) (u1, u2)) (by omega) (SqL.of hls) (fun j x H3 Q3 hx s3 q3 => ?_) (fun H3 D3 as hD3 ha3 s3 nD3 => ?_)
        · obtain ⟨am, tm9, rfl, hmm, smt⟩ := tps.at hx
          rw [List.getElem?_map] at hmm
          cases hm8 : (gsF f0)[j]? with
          | none =>
            rw [hm8] at hmm
            cases hmm
          | some m =>
            rw [hm8] at hmm
            cases hmm
            rw [List.getD_eq_getElem?_getD, hm8, Option.getD_some] at q3
            obtain ⟨y1, y2, y3, y4⟩ := gbd m (List.mem_of_getElem? hm8)
            obtain ⟨m1, m2, m3, m4⟩ := m
            have smt : SqT K H3 am [.int m1, .int m2, .int m3, .int m4] := same_seqT s3 smt
            clean_wf
            refine ⟨rfl, ?_⟩
            clean_wf
            exact q3 _ _ sn ht
        · have hm3 := s3 _ _ hm9
          have pm3 := pm9.same s3
          have asl := ha3.len
          rw [List.length_map, List.length_range] at asl
          have wl := pm3.len
          rw [orb_len, List.length_take] at wl
          have wl2 := Nat.mul_le_mul (show min i pts.length ≤ 12000 by omega) glen
          have hb : Nat.ble (ws.length + (as.map V.ref).length) 100000 = true := Nat.ble_eq_true_of_le (by rw [List.length_map]; omega)
          clean_wf
          all_goals first | exact hb | skip
          refine ⟨_, _, tn, ws ++ as.map V.ref, rfl, (sm9.trans s3).trans sn, ht, ?_⟩
          have e5 : orbL (gsF f0) (pts.take (i + 1)) = orbL (gsF f0) (pts.take i) ++ (List.range zs.length).map fun j => apM ((gsF f0).getD j (1, 0, 0, 1)) (u1, u2) := by
            unfold orbL
            rw [tk, List.flatMap_append, List.flatMap_cons, List.flatMap_nil, List.append_nil]
            congr 1
            rw [zl]
            refine List.ext_getElem (by simp) fun k h1 h2 => ?_
            have hk : k < (gsF f0).length := by simpa using h1
            rw [List.getElem_map, List.getElem_map, List.getElem_range, List.getD_eq_getElem?_getD, List.getElem?_eq_getElem hk]
            rfl
          rw [e5]
          exact (pm3.appx (prs_pd ha3)).same sn
      obtain ⟨x8, x9, lm, ws, rfl, sm, hm, pm⟩ := hPv
      rw [tl, List.take_length] at pm
      have sF := same_seqT sm sF
      have sf := same_seqT sm sf
      have hD := sm _ _ hD
      have pD := pD.same sm
      have dc := dc.same sm
      clear sm hM
      clean_wf
      refine R.srtP (SqL.of hm) pm ond (fun w8 q8 H8 p8 pd8 pm8 pw8 s8 n8 h8 => ?_)
      have eq8 : q8 = qD := ltp_ext pw8 upD fun v => by rw [pm8.mem_iff, omem, vf, memD]
      have sF := same_seqT s8 sF
      have sf := same_seqT s8 sf
      have hD := s8 _ _ hD
      have pD := pD.same s8
      have dc := dc.same s8
      clean_wf
      refine R.neTps (SqL.of h8) pd8.tps (SqL.of hD) pD.tps ?_
      rw [eq8, decide_eq_true rfl]
      clear h8 pd8 pm8 pw8 n8 eq8 s8 hm pm hT pT7 sf
      clean_wf
      obtain ⟨dd, hdd⟩ : ∃ x, B * B - 4 * A * C = x := ⟨_, rfl⟩
      have bdd : Bd 60 dd := by
        have b4 : Bd 3 4 := show (4 : Int).natAbs < 2 ^ 3 by decide
        rw [← hdd]
        exact ((bB.mul bB).sub ((b4.mul bA).mul bC)).mono (by decide)
      rw [hdd]
      intro r5 H12 r5a r5b d12 k12
      have sF := kp_seqT k12 dc sF
      clean_wf
      intro r6 H13 r6a r6b d13 k13
      have npl : tn ≠ p := fresh_ne nn d12
      have hl := k13 _ _ npl ht
      have sF := kp_seqT k13 (d12.same sn) (same_seqT sn sF)
      obtain ⟨v, hv, hat⟩ := sgn_at r6a r6b
      refine R.ixL (SqL.of hl) hat ?_
      have b5 : Bd 12 (1 + r5) := Bd.of (m := 61) (by omega) (by decide)
      have bv : Bd 2 v := Bd.of (m := 1) (by omega) (by decide)
      clear hl npl k13 k12 d12 dc ht nn sn omem ond upD memD hD pD
      have h61 : ((1 + r5) * v).natAbs ≤ 60 := by rcases hv with rfl | rfl <;> omega
      have h62 : 2 * (((1 + r5) * v).natAbs : Int) < 2 ^ 62 := Int.lt_of_le_of_lt (show _ ≤ (120 : Int) by omega) (by decide)
      clean_wf
      all_goals first | exact h62 | skip
      obtain ⟨n2, hn2⟩ : ∃ x, (1 + r5) * v = x := ⟨_, rfl⟩
      have n20 : n2 ≠ 0 ∧ n2.natAbs ≤ 60 := by
        rw [← hn2]
        rcases hv with rfl | rfl <;> omega
      rw [hn2]
      have bn2 : Bd 12 n2 := Bd.of (m := 60) n20.2 (by decide)
      have n4 : 4 * n2 ≠ 0 := by omega
      clear hn2 b5 bv hv hat h61 h62
      refine R.lcRT (K := K) (n := (2 * (n2.natAbs : Int)).toNat) (fun b => decide (((b : Int) * (b : Int) - dd).fmod (4 * n2) = 0)) (fun b => fL (rtF dd n2 (b : Int))) (by omega) (fun i H' C9 E9 hi s9 kC kE => ?_) (fun H' lr yr hr tr s9 nr => ?_)
      · have bi : Bd 12 (0 + (i : Int)) := Bd.of (m := 200) (by omega) (by decide)
        have ei : 0 + (i : Int) = (i : Int) := Int.zero_add _
        clean_wf
        refine ⟨rfl, ?_⟩
        rw [ei] at *
        clean_wf
        by_cases z : ((i : Int) * (i : Int) - dd).fmod (4 * n2) = 0
        · rw [decide_eq_true z] at kC
          refine wayT z ?_
          clean_wf
          exact kC rfl _ _ sn (SqT.of ht)
        · rw [decide_eq_false z] at kE
          refine wayF z ?_
          exact kE rfl _ (Same.refl _)
      have sF := same_seqT s9 sF
      obtain ⟨lf, hf⟩ := fac_at (N := n2.natAbs) (by omega) (by omega)
      clear nr s9
      clean_wf
      refine ⟨dd, n2, lf, rfl, n20.1, by omega, bdd, hf, ?_⟩
      intro Ha la ya ra sa na ha ta ma pa lena
      have yal := ta.len
      rw [List.length_map] at yal
      refine R.bmT ha ?_
      clean_wf
      refine R.app2 (sn _ _ ha) (by omega) (fun H6 e6 h6 => ?_)
      have s6 := same_mut (sa.trans sn) na (o := .lst (ya ++ [.ref tn]))
      rw [← e6] at s6
      have hr := s6 _ _ hr
      have tr := tr.same s6
      have sF := same_seqT s6 sF
      clear h6 e6 s6 ht sn nn ha ta ma pa lena na sa yal
      have sf2 : SqT K H6 tF ((fL (scF g f0)).map V.int) := by rw [ef]; exact sF
      clean_wf
      refine uDefinitePoints rfl sf2 (fok n2 n20.1 (by omega)) d0 (by omega) ?_
      intro Hb lb wb qb sb nb9 hb pb _ _ lnb
      have wbl := pb.len
      refine R.bmT hb ?_
      clean_wf
      refine R.app2 (sn _ _ hb) (by omega) (fun H8 e8 h8 => ?_)
      have s8 := same_mut (sb.trans sn) nb9 (o := .lst (wb ++ [.ref tn]))
      rw [← e8] at s8
      have hr := s8 _ _ hr
      have tr := tr.same s8
      clear h8 e8 s8 ht sn nn hb pb lnb nb9 sb wbl sf2
      clean_wf
      refine ⟨dd, n2, lf, rfl, n20.1, by omega, bdd, hf, ?_⟩
      intro Hc lc yc rc sc nc hc tc mc pc lenc
      clean_wf
      refine R.eqTps (SqL.of hc) tc (SqL.of (sc _ _ hr)) (tr.same sc) ?_
      have e : rc.map fL = ((List.range (2 * (n2.natAbs : Int)).toNat).filter fun (b : Nat) => decide (((b : Int) * (b : Int) - dd).fmod (4 * n2) = 0)).map fun (b : Nat) => fL (rtF dd n2 (b : Int)) := by
        have e2 : rc = ((List.range (2 * (n2.natAbs : Int)).toNat).filter fun (b : Nat) => decide (((b : Int) * (b : Int) - dd).fmod (4 * n2) = 0)).map fun (b : Nat) => rtF dd n2 (b : Int) := by
          refine key_ext (fun h : Fm => h.2.1) pc ?_ fun h => ?_
          · refine List.pairwise_map.mpr ((List.pairwise_lt_range.sublist List.filter_sublist).imp fun h => ?_)
            show (_ : Int) < _
            exact Int.ofNat_lt.mpr h
          · rw [mc]
            constructor
            · rintro ⟨h1, h2, h3, h4⟩
              obtain ⟨x1, x2, x3⟩ := h
              dsimp only at h1 h2 h3 h4
              subst h1
              unfold dsc at h4
              have e9 : x2 * x2 - dd = 4 * x1 * x3 := by omega
              refine List.mem_map.mpr ⟨x2.toNat, List.mem_filter.mpr ⟨List.mem_range.mpr (by omega), decide_eq_true ?_⟩, ?_⟩
              · rw [Int.toNat_of_nonneg h2, e9]
                exact Int.mul_fmod_right _ _
              · unfold rtF
                rw [Int.toNat_of_nonneg h2, e9, Int.mul_fdiv_cancel_left _ n4]
            · intro hm
              obtain ⟨b, hb, rfl⟩ := List.mem_map.mp hm
              obtain ⟨h1, h2⟩ := List.mem_filter.mp hb
              have h1 := List.mem_range.mp h1
              have h2 := of_decide_eq_true h2
              refine ⟨rfl, by show (0 : Int) ≤ (b : Int); omega, by show (b : Int) < _; omega, ?_⟩
              show dsc n2 (b : Int) (((b : Int) * (b : Int) - dd).fdiv (4 * n2)) = dd
              have h3 := Int.fdiv_mul_cancel_of_fmod_eq_zero h2
              generalize ((b : Int) * (b : Int) - dd).fdiv (4 * n2) = c9 at *
              unfold dsc
              have h4 : 4 * n2 * c9 = c9 * (4 * n2) := Int.mul_comm _ _
              omega
        rw [e2, List.map_map]
        rfl
      rw [e, decide_eq_true rfl]
      exact qq _
end
theorem all_mk {l : PySem.W.OpenLaw} {w : World} {K : PySem.W.Frag} {h : Heap} {mg : Str → Option Value} {f : Addr} (X : K.In h) (G : h.Ns mainGlobals mg) (hfa : mg "law" = some (.ref f))
    {f0 f1 f2 f3 f4 f5 f6 f7 f8 f9 f10 f11 f12 f13 f14 f15 f16 f17 f18 f19 f20 f21 f22 f23 f24 f25 f26 f27 f28 f29 f30 f31 f32 f33 f34 f35 f36 f37 f38 f39 f40 f41 f42 f43 f44 f45 f46 f47 f48 f49 f50 f51 f52 f53 f54 f55 f56 f57 f58 f59 f60 f61 f62 f63 f64 f65 f66 f67 f68 f69 : Addr}
    {od0 an0 od1 an1 od2 an2 od3 an3 od4 an4 od5 an5 od6 an6 od7 an7 od8 an8 od9 an9 od10 an10 od11 an11 od12 an12 od13 an13 od14 an14 od15 an15 od16 an16 od17 an17 od18 an18 od19 an19 od20 an20 od21 an21 od22 an22 od23 an23 od24 an24 od25 an25 od26 an26 od27 an27 od28 an28 od29 an29 od30 an30 od31 an31 od32 an32 od33 an33 od34 an34 od35 an35 od36 an36 od37 an37 od38 an38 od39 an39 od40 an40 od41 an41 od42 an42 od43 an43 od44 an44 od45 an45 od46 an46 od47 an47 od48 an48 od49 an49 od50 an50 od51 an51 od52 an52 od53 an53 od54 an54 od55 an55 od56 an56 od57 an57 od58 an58 od59 an59 od60 an60 od61 an61 od62 an62 od63 an63 od64 an64 od65 an65 od66 an66 od67 an67 od68 an68 od69 an69 : Option Addr} {sl0 sl1 sl2 sl3 sl4 sl5 sl6 sl7 sl8 sl9 sl10 sl11 sl12 sl13 sl14 sl15 sl16 sl17 sl18 sl19 sl20 sl21 sl22 sl23 sl24 sl25 sl26 sl27 sl28 sl29 sl30 sl31 sl32 sl33 sl34 sl35 sl36 sl37 sl38 sl39 sl40 sl41 sl42 sl43 sl44 sl45 sl46 sl47 sl48 sl49 sl50 sl51 sl52 sl53 sl54 sl55 sl56 sl57 sl58 sl59 sl60 sl61 sl62 sl63 sl64 sl65 sl66 sl67 sl68 sl69 : Array (Option Value)}
    {oc0 kV0 dc0 pm0 cd0 ct0 oc1 kV1 dc1 pm1 cd1 ct1 oc2 kV2 dc2 pm2 cd2 ct2 oc3 kV3 dc3 pm3 cd3 ct3 oc4 kV4 dc4 pm4 cd4 ct4 oc5 kV5 dc5 pm5 cd5 ct5 oc6 kV6 dc6 pm6 cd6 ct6 oc7 kV7 dc7 pm7 cd7 ct7 oc8 kV8 dc8 pm8 cd8 ct8 oc9 kV9 dc9 pm9 cd9 ct9 oc10 kV10 dc10 pm10 cd10 ct10 oc11 kV11 dc11 pm11 cd11 ct11 oc12 kV12 dc12 pm12 cd12 ct12 oc13 kV13 dc13 pm13 cd13 ct13 oc14 kV14 dc14 pm14 cd14 ct14 oc15 kV15 dc15 pm15 cd15 ct15 oc16 kV16 dc16 pm16 cd16 ct16 oc17 kV17 dc17 pm17 cd17 ct17 oc18 kV18 dc18 pm18 cd18 ct18 oc19 kV19 dc19 pm19 cd19 ct19 oc20 kV20 dc20 pm20 cd20 ct20 oc21 kV21 dc21 pm21 cd21 ct21 oc22 kV22 dc22 pm22 cd22 ct22 oc23 kV23 dc23 pm23 cd23 ct23 oc24 kV24 dc24 pm24 cd24 ct24 oc25 kV25 dc25 pm25 cd25 ct25 oc26 kV26 dc26 pm26 cd26 ct26 oc27 kV27 dc27 pm27 cd27 ct27 oc28 kV28 dc28 pm28 cd28 ct28 oc29 kV29 dc29 pm29 cd29 ct29 oc30 kV30 dc30 pm30 cd30 ct30 oc31 kV31 dc31 pm31 cd31 ct31 oc32 kV32 dc32 pm32 cd32 ct32 oc33 kV33 dc33 pm33 cd33 ct33 oc34 kV34 dc34 pm34 cd34 ct34 oc35 kV35 dc35 pm35 cd35 ct35 oc36 kV36 dc36 pm36 cd36 ct36 oc37 kV37 dc37 pm37 cd37 ct37 oc38 kV38 dc38 pm38 cd38 ct38 oc39 kV39 dc39 pm39 cd39 ct39 oc40 kV40 dc40 pm40 cd40 ct40 oc41 kV41 dc41 pm41 cd41 ct41 oc42 kV42 dc42 pm42 cd42 ct42 oc43 kV43 dc43 pm43 cd43 ct43 oc44 kV44 dc44 pm44 cd44 ct44 oc45 kV45 dc45 pm45 cd45 ct45 oc46 kV46 dc46 pm46 cd46 ct46 oc47 kV47 dc47 pm47 cd47 ct47 oc48 kV48 dc48 pm48 cd48 ct48 oc49 kV49 dc49 pm49 cd49 ct49 oc50 kV50 dc50 pm50 cd50 ct50 oc51 kV51 dc51 pm51 cd51 ct51 oc52 kV52 dc52 pm52 cd52 ct52 oc53 kV53 dc53 pm53 cd53 ct53 oc54 kV54 dc54 pm54 cd54 ct54 oc55 kV55 dc55 pm55 cd55 ct55 oc56 kV56 dc56 pm56 cd56 ct56 oc57 kV57 dc57 pm57 cd57 ct57 oc58 kV58 dc58 pm58 cd58 ct58 oc59 kV59 dc59 pm59 cd59 ct59 oc60 kV60 dc60 pm60 cd60 ct60 oc61 kV61 dc61 pm61 cd61 ct61 oc62 kV62 dc62 pm62 cd62 ct62 oc63 kV63 dc63 pm63 cd63 ct63 oc64 kV64 dc64 pm64 cd64 ct64 oc65 kV65 dc65 pm65 cd65 ct65 oc66 kV66 dc66 pm66 cd66 ct66 oc67 kV67 dc67 pm67 cd67 ct67 oc68 kV68 dc68 pm68 cd68 ct68 oc69 kV69 dc69 pm69 cd69 ct69 : Value}
    (a0 : PySem.W.nsIn K mainGlobals "bezout" = some (some (.ref f0))) (l0 : K.lookup f0 = some ⟨oc0, od0, .func (PySem.W.fnOf "bezout" "bezout" (defArgs sBezout) (defBody sBezout) (defScope sBezout) .none kV0 dc0 pm0 an0 cd0 ct0), sl0⟩) (c0 : PySem.W.codeIn K cd0 "bezout" = true) (k0 : PySem.W.keepIn K (.ref f0) = true)
    (a1 : PySem.W.nsIn K mainGlobals "measure" = some (some (.ref f1))) (l1 : K.lookup f1 = some ⟨oc1, od1, .func (PySem.W.fnOf "measure" "measure" (defArgs sMeasure) (defBody sMeasure) (defScope sMeasure) .none kV1 dc1 pm1 an1 cd1 ct1), sl1⟩) (c1 : PySem.W.codeIn K cd1 "measure" = true) (k1 : PySem.W.keepIn K (.ref f1) = true)
    (a2 : PySem.W.nsIn K mainGlobals "floor_root" = some (some (.ref f2))) (l2 : K.lookup f2 = some ⟨oc2, od2, .func (PySem.W.fnOf "floor_root" "floor_root" (defArgs sFloorRoot) (defBody sFloorRoot) (defScope sFloorRoot) .none kV2 dc2 pm2 an2 cd2 ct2), sl2⟩) (c2 : PySem.W.codeIn K cd2 "floor_root" = true) (k2 : PySem.W.keepIn K (.ref f2) = true)
    (a3 : PySem.W.nsIn K mainGlobals "is_square" = some (some (.ref f3))) (l3 : K.lookup f3 = some ⟨oc3, od3, .func (PySem.W.fnOf "is_square" "is_square" (defArgs sIsSquare) (defBody sIsSquare) (defScope sIsSquare) .none kV3 dc3 pm3 an3 cd3 ct3), sl3⟩) (c3 : PySem.W.codeIn K cd3 "is_square" = true) (k3 : PySem.W.keepIn K (.ref f3) = true)
    (a4 : PySem.W.nsIn K mainGlobals "power" = some (some (.ref f4))) (l4 : K.lookup f4 = some ⟨oc4, od4, .func (PySem.W.fnOf "power" "power" (defArgs sPower) (defBody sPower) (defScope sPower) .none kV4 dc4 pm4 an4 cd4 ct4), sl4⟩) (c4 : PySem.W.codeIn K cd4 "power" = true) (k4 : PySem.W.keepIn K (.ref f4) = true)
    (a5 : PySem.W.nsIn K mainGlobals "power_modulo" = some (some (.ref f5))) (l5 : K.lookup f5 = some ⟨oc5, od5, .func (PySem.W.fnOf "power_modulo" "power_modulo" (defArgs sPowerModulo) (defBody sPowerModulo) (defScope sPowerModulo) .none kV5 dc5 pm5 an5 cd5 ct5), sl5⟩) (c5 : PySem.W.codeIn K cd5 "power_modulo" = true) (k5 : PySem.W.keepIn K (.ref f5) = true)
    (a6 : PySem.W.nsIn K mainGlobals "taken_out" = some (some (.ref f6))) (l6 : K.lookup f6 = some ⟨oc6, od6, .func (PySem.W.fnOf "taken_out" "taken_out" (defArgs sTakenOut) (defBody sTakenOut) (defScope sTakenOut) .none kV6 dc6 pm6 an6 cd6 ct6), sl6⟩) (c6 : PySem.W.codeIn K cd6 "taken_out" = true) (k6 : PySem.W.keepIn K (.ref f6) = true)
    (a7 : PySem.W.nsIn K mainGlobals "is_prime" = some (some (.ref f7))) (l7 : K.lookup f7 = some ⟨oc7, od7, .func (PySem.W.fnOf "is_prime" "is_prime" (defArgs sIsPrime) (defBody sIsPrime) (defScope sIsPrime) .none kV7 dc7 pm7 an7 cd7 ct7), sl7⟩) (c7 : PySem.W.codeIn K cd7 "is_prime" = true) (k7 : PySem.W.keepIn K (.ref f7) = true)
    (a8 : PySem.W.nsIn K mainGlobals "_behaves_as_prime" = some (some (.ref f8))) (l8 : K.lookup f8 = some ⟨oc8, od8, .func (PySem.W.fnOf "_behaves_as_prime" "_behaves_as_prime" (defArgs sBehavesAsPrime) (defBody sBehavesAsPrime) (defScope sBehavesAsPrime) .none kV8 dc8 pm8 an8 cd8 ct8), sl8⟩) (c8 : PySem.W.codeIn K cd8 "_behaves_as_prime" = true) (k8 : PySem.W.keepIn K (.ref f8) = true)
    (a9 : PySem.W.nsIn K mainGlobals "prime_parts" = some (some (.ref f9))) (l9 : K.lookup f9 = some ⟨oc9, od9, .func (PySem.W.fnOf "prime_parts" "prime_parts" (defArgs sPrimeParts) (defBody sPrimeParts) (defScope sPrimeParts) .none kV9 dc9 pm9 an9 cd9 ct9), sl9⟩) (c9 : PySem.W.codeIn K cd9 "prime_parts" = true) (k9 : PySem.W.keepIn K (.ref f9) = true)
    (a10 : PySem.W.nsIn K mainGlobals "_least_measure" = some (some (.ref f10))) (l10 : K.lookup f10 = some ⟨oc10, od10, .func (PySem.W.fnOf "_least_measure" "_least_measure" (defArgs sLeastMeasure) (defBody sLeastMeasure) (defScope sLeastMeasure) .none kV10 dc10 pm10 an10 cd10 ct10), sl10⟩) (c10 : PySem.W.codeIn K cd10 "_least_measure" = true) (k10 : PySem.W.keepIn K (.ref f10) = true)
    (a11 : PySem.W.nsIn K mainGlobals "square_measures" = some (some (.ref f11))) (l11 : K.lookup f11 = some ⟨oc11, od11, .func (PySem.W.fnOf "square_measures" "square_measures" (defArgs sSquareMeasures) (defBody sSquareMeasures) (defScope sSquareMeasures) .none kV11 dc11 pm11 an11 cd11 ct11), sl11⟩) (c11 : PySem.W.codeIn K cd11 "square_measures" = true) (k11 : PySem.W.keepIn K (.ref f11) = true)
    (a12 : PySem.W.nsIn K mainGlobals "halved" = some (some (.ref f12))) (l12 : K.lookup f12 = some ⟨oc12, od12, .func (PySem.W.fnOf "halved" "halved" (defArgs sHalved) (defBody sHalved) (defScope sHalved) .none kV12 dc12 pm12 an12 cd12 ct12), sl12⟩) (c12 : PySem.W.codeIn K cd12 "halved" = true) (k12 : PySem.W.keepIn K (.ref f12) = true)
    (a13 : PySem.W.nsIn K mainGlobals "products" = some (some (.ref f13))) (l13 : K.lookup f13 = some ⟨oc13, od13, .func (PySem.W.fnOf "products" "products" (defArgs sProducts) (defBody sProducts) (defScope sProducts) .none kV13 dc13 pm13 an13 cd13 ct13), sl13⟩) (c13 : PySem.W.codeIn K cd13 "products" = true) (k13 : PySem.W.keepIn K (.ref f13) = true)
    (a14 : PySem.W.nsIn K mainGlobals "discriminant" = some (some (.ref f14))) (l14 : K.lookup f14 = some ⟨oc14, od14, .func (PySem.W.fnOf "discriminant" "discriminant" (defArgs sDiscriminant) (defBody sDiscriminant) (defScope sDiscriminant) .none kV14 dc14 pm14 an14 cd14 ct14), sl14⟩) (c14 : PySem.W.codeIn K cd14 "discriminant" = true) (k14 : PySem.W.keepIn K (.ref f14) = true)
    (a15 : PySem.W.nsIn K mainGlobals "content" = some (some (.ref f15))) (l15 : K.lookup f15 = some ⟨oc15, od15, .func (PySem.W.fnOf "content" "content" (defArgs sContent) (defBody sContent) (defScope sContent) .none kV15 dc15 pm15 an15 cd15 ct15), sl15⟩) (c15 : PySem.W.codeIn K cd15 "content" = true) (k15 : PySem.W.keepIn K (.ref f15) = true)
    (a16 : PySem.W.nsIn K mainGlobals "worth" = some (some (.ref f16))) (l16 : K.lookup f16 = some ⟨oc16, od16, .func (PySem.W.fnOf "worth" "worth" (defArgs sWorth) (defBody sWorth) (defScope sWorth) .none kV16 dc16 pm16 an16 cd16 ct16), sl16⟩) (c16 : PySem.W.codeIn K cd16 "worth" = true) (k16 : PySem.W.keepIn K (.ref f16) = true)
    (a17 : PySem.W.nsIn K mainGlobals "act" = some (some (.ref f17))) (l17 : K.lookup f17 = some ⟨oc17, od17, .func (PySem.W.fnOf "act" "act" (defArgs sAct) (defBody sAct) (defScope sAct) .none kV17 dc17 pm17 an17 cd17 ct17), sl17⟩) (c17 : PySem.W.codeIn K cd17 "act" = true) (k17 : PySem.W.keepIn K (.ref f17) = true)
    (a18 : PySem.W.nsIn K mainGlobals "scaled" = some (some (.ref f18))) (l18 : K.lookup f18 = some ⟨oc18, od18, .func (PySem.W.fnOf "scaled" "scaled" (defArgs sScaled) (defBody sScaled) (defScope sScaled) .none kV18 dc18 pm18 an18 cd18 ct18), sl18⟩) (c18 : PySem.W.codeIn K cd18 "scaled" = true) (k18 : PySem.W.keepIn K (.ref f18) = true)
    (a19 : PySem.W.nsIn K mainGlobals "divided" = some (some (.ref f19))) (l19 : K.lookup f19 = some ⟨oc19, od19, .func (PySem.W.fnOf "divided" "divided" (defArgs sDivided) (defBody sDivided) (defScope sDivided) .none kV19 dc19 pm19 an19 cd19 ct19), sl19⟩) (c19 : PySem.W.codeIn K cd19 "divided" = true) (k19 : PySem.W.keepIn K (.ref f19) = true)
    (a20 : PySem.W.nsIn K mainGlobals "kind" = some (some (.ref f20))) (l20 : K.lookup f20 = some ⟨oc20, od20, .func (PySem.W.fnOf "kind" "kind" (defArgs sKind) (defBody sKind) (defScope sKind) .none kV20 dc20 pm20 an20 cd20 ct20), sl20⟩) (c20 : PySem.W.codeIn K cd20 "kind" = true) (k20 : PySem.W.keepIn K (.ref f20) = true)
    (a21 : PySem.W.nsIn K mainGlobals "unit_change" = some (some (.ref f21))) (l21 : K.lookup f21 = some ⟨oc21, od21, .func (PySem.W.fnOf "unit_change" "unit_change" (defArgs sUnitChange) (defBody sUnitChange) (defScope sUnitChange) .none kV21 dc21 pm21 an21 cd21 ct21), sl21⟩) (c21 : PySem.W.codeIn K cd21 "unit_change" = true) (k21 : PySem.W.keepIn K (.ref f21) = true)
    (a22 : PySem.W.nsIn K mainGlobals "multiply" = some (some (.ref f22))) (l22 : K.lookup f22 = some ⟨oc22, od22, .func (PySem.W.fnOf "multiply" "multiply" (defArgs sMultiply) (defBody sMultiply) (defScope sMultiply) .none kV22 dc22 pm22 an22 cd22 ct22), sl22⟩) (c22 : PySem.W.codeIn K cd22 "multiply" = true) (k22 : PySem.W.keepIn K (.ref f22) = true)
    (a23 : PySem.W.nsIn K mainGlobals "determinant" = some (some (.ref f23))) (l23 : K.lookup f23 = some ⟨oc23, od23, .func (PySem.W.fnOf "determinant" "determinant" (defArgs sDeterminant) (defBody sDeterminant) (defScope sDeterminant) .none kV23 dc23 pm23 an23 cd23 ct23), sl23⟩) (c23 : PySem.W.codeIn K cd23 "determinant" = true) (k23 : PySem.W.keepIn K (.ref f23) = true)
    (a24 : PySem.W.nsIn K mainGlobals "apply" = some (some (.ref f24))) (l24 : K.lookup f24 = some ⟨oc24, od24, .func (PySem.W.fnOf "apply" "apply" (defArgs sApply) (defBody sApply) (defScope sApply) .none kV24 dc24 pm24 an24 cd24 ct24), sl24⟩) (c24 : PySem.W.codeIn K cd24 "apply" = true) (k24 : PySem.W.keepIn K (.ref f24) = true)
    (a25 : PySem.W.nsIn K mainGlobals "negative" = some (some (.ref f25))) (l25 : K.lookup f25 = some ⟨oc25, od25, .func (PySem.W.fnOf "negative" "negative" (defArgs sNegative) (defBody sNegative) (defScope sNegative) .none kV25 dc25 pm25 an25 cd25 ct25), sl25⟩) (c25 : PySem.W.codeIn K cd25 "negative" = true) (k25 : PySem.W.keepIn K (.ref f25) = true)
    (a26 : PySem.W.nsIn K mainGlobals "inverse" = some (some (.ref f26))) (l26 : K.lookup f26 = some ⟨oc26, od26, .func (PySem.W.fnOf "inverse" "inverse" (defArgs sInverse) (defBody sInverse) (defScope sInverse) .none kV26 dc26 pm26 an26 cd26 ct26), sl26⟩) (c26 : PySem.W.codeIn K cd26 "inverse" = true) (k26 : PySem.W.keepIn K (.ref f26) = true)
    (a27 : PySem.W.nsIn K mainGlobals "is_reduced_definite" = some (some (.ref f27))) (l27 : K.lookup f27 = some ⟨oc27, od27, .func (PySem.W.fnOf "is_reduced" "is_reduced" (defArgs sIsReducedDefinite) (defBody sIsReducedDefinite) (defScope sIsReducedDefinite) .none kV27 dc27 pm27 an27 cd27 ct27), sl27⟩) (c27 : PySem.W.codeIn K cd27 "is_reduced" = true) (k27 : PySem.W.keepIn K (.ref f27) = true)
    (a28 : PySem.W.nsIn K mainGlobals "reduce_definite" = some (some (.ref f28))) (l28 : K.lookup f28 = some ⟨oc28, od28, .func (PySem.W.fnOf "reduce_definite" "reduce_definite" (defArgs sReduceDefinite) (defBody sReduceDefinite) (defScope sReduceDefinite) .none kV28 dc28 pm28 an28 cd28 ct28), sl28⟩) (c28 : PySem.W.codeIn K cd28 "reduce_definite" = true) (k28 : PySem.W.keepIn K (.ref f28) = true)
    (a29 : PySem.W.nsIn K mainGlobals "_step_down" = some (some (.ref f29))) (l29 : K.lookup f29 = some ⟨oc29, od29, .func (PySem.W.fnOf "_step_down" "_step_down" (defArgs sStepDown) (defBody sStepDown) (defScope sStepDown) .none kV29 dc29 pm29 an29 cd29 ct29), sl29⟩) (c29 : PySem.W.codeIn K cd29 "_step_down" = true) (k29 : PySem.W.keepIn K (.ref f29) = true)
    (a30 : PySem.W.nsIn K mainGlobals "self_changes" = some (some (.ref f30))) (l30 : K.lookup f30 = some ⟨oc30, od30, .func (PySem.W.fnOf "self_changes" "self_changes" (defArgs sSelfChanges) (defBody sSelfChanges) (defScope sSelfChanges) .none kV30 dc30 pm30 an30 cd30 ct30), sl30⟩) (c30 : PySem.W.codeIn K cd30 "self_changes" = true) (k30 : PySem.W.keepIn K (.ref f30) = true)
    (a31 : PySem.W.nsIn K mainGlobals "is_reduced_indefinite" = some (some (.ref f31))) (l31 : K.lookup f31 = some ⟨oc31, od31, .func (PySem.W.fnOf "is_reduced" "is_reduced" (defArgs sIsReducedIndefinite) (defBody sIsReducedIndefinite) (defScope sIsReducedIndefinite) .none kV31 dc31 pm31 an31 cd31 ct31), sl31⟩) (c31 : PySem.W.codeIn K cd31 "is_reduced" = true) (k31 : PySem.W.keepIn K (.ref f31) = true)
    (a32 : PySem.W.nsIn K mainGlobals "reduce_indefinite" = some (some (.ref f32))) (l32 : K.lookup f32 = some ⟨oc32, od32, .func (PySem.W.fnOf "reduce_indefinite" "reduce_indefinite" (defArgs sReduceIndefinite) (defBody sReduceIndefinite) (defScope sReduceIndefinite) .none kV32 dc32 pm32 an32 cd32 ct32), sl32⟩) (c32 : PySem.W.codeIn K cd32 "reduce_indefinite" = true) (k32 : PySem.W.keepIn K (.ref f32) = true)
    (a33 : PySem.W.nsIn K mainGlobals "_step_near" = some (some (.ref f33))) (l33 : K.lookup f33 = some ⟨oc33, od33, .func (PySem.W.fnOf "_step_near" "_step_near" (defArgs sStepNear) (defBody sStepNear) (defScope sStepNear) .none kV33 dc33 pm33 an33 cd33 ct33), sl33⟩) (c33 : PySem.W.codeIn K cd33 "_step_near" = true) (k33 : PySem.W.keepIn K (.ref f33) = true)
    (a34 : PySem.W.nsIn K mainGlobals "step_of" = some (some (.ref f34))) (l34 : K.lookup f34 = some ⟨oc34, od34, .func (PySem.W.fnOf "step_of" "step_of" (defArgs sStepOf) (defBody sStepOf) (defScope sStepOf) .none kV34 dc34 pm34 an34 cd34 ct34), sl34⟩) (c34 : PySem.W.codeIn K cd34 "step_of" = true) (k34 : PySem.W.keepIn K (.ref f34) = true)
    (a35 : PySem.W.nsIn K mainGlobals "cycle" = some (some (.ref f35))) (l35 : K.lookup f35 = some ⟨oc35, od35, .func (PySem.W.fnOf "cycle" "cycle" (defArgs sCycle) (defBody sCycle) (defScope sCycle) .none kV35 dc35 pm35 an35 cd35 ct35), sl35⟩) (c35 : PySem.W.codeIn K cd35 "cycle" = true) (k35 : PySem.W.keepIn K (.ref f35) = true)
    (a36 : PySem.W.nsIn K mainGlobals "self_group" = some (some (.ref f36))) (l36 : K.lookup f36 = some ⟨oc36, od36, .func (PySem.W.fnOf "self_group" "self_group" (defArgs sSelfGroup) (defBody sSelfGroup) (defScope sSelfGroup) .none kV36 dc36 pm36 an36 cd36 ct36), sl36⟩) (c36 : PySem.W.codeIn K cd36 "self_group" = true) (k36 : PySem.W.keepIn K (.ref f36) = true)
    (a37 : PySem.W.nsIn K mainGlobals "square_roots" = some (some (.ref f37))) (l37 : K.lookup f37 = some ⟨oc37, od37, .func (PySem.W.fnOf "square_roots" "square_roots" (defArgs sSquareRoots) (defBody sSquareRoots) (defScope sSquareRoots) .none kV37 dc37 pm37 an37 cd37 ct37), sl37⟩) (c37 : PySem.W.codeIn K cd37 "square_roots" = true) (k37 : PySem.W.keepIn K (.ref f37) = true)
    (a38 : PySem.W.nsIn K mainGlobals "is_residue" = some (some (.ref f38))) (l38 : K.lookup f38 = some ⟨oc38, od38, .func (PySem.W.fnOf "is_residue" "is_residue" (defArgs sIsResidue) (defBody sIsResidue) (defScope sIsResidue) .none kV38 dc38 pm38 an38 cd38 ct38), sl38⟩) (c38 : PySem.W.codeIn K cd38 "is_residue" = true) (k38 : PySem.W.keepIn K (.ref f38) = true)
    (a39 : PySem.W.nsIn K mainGlobals "_joined" = some (some (.ref f39))) (l39 : K.lookup f39 = some ⟨oc39, od39, .func (PySem.W.fnOf "_joined" "_joined" (defArgs sJoined) (defBody sJoined) (defScope sJoined) .none kV39 dc39 pm39 an39 cd39 ct39), sl39⟩) (c39 : PySem.W.codeIn K cd39 "_joined" = true) (k39 : PySem.W.keepIn K (.ref f39) = true)
    (a40 : PySem.W.nsIn K mainGlobals "_power_roots" = some (some (.ref f40))) (l40 : K.lookup f40 = some ⟨oc40, od40, .func (PySem.W.fnOf "_power_roots" "_power_roots" (defArgs sPowerRoots) (defBody sPowerRoots) (defScope sPowerRoots) .none kV40 dc40 pm40 an40 cd40 ct40), sl40⟩) (c40 : PySem.W.codeIn K cd40 "_power_roots" = true) (k40 : PySem.W.keepIn K (.ref f40) = true)
    (a41 : PySem.W.nsIn K mainGlobals "_unit_roots" = some (some (.ref f41))) (l41 : K.lookup f41 = some ⟨oc41, od41, .func (PySem.W.fnOf "_unit_roots" "_unit_roots" (defArgs sUnitRoots) (defBody sUnitRoots) (defScope sUnitRoots) .none kV41 dc41 pm41 an41 cd41 ct41), sl41⟩) (c41 : PySem.W.codeIn K cd41 "_unit_roots" = true) (k41 : PySem.W.keepIn K (.ref f41) = true)
    (a42 : PySem.W.nsIn K mainGlobals "_unit_roots_of_two" = some (some (.ref f42))) (l42 : K.lookup f42 = some ⟨oc42, od42, .func (PySem.W.fnOf "_unit_roots_of_two" "_unit_roots_of_two" (defArgs sUnitRootsOfTwo) (defBody sUnitRootsOfTwo) (defScope sUnitRootsOfTwo) .none kV42 dc42 pm42 an42 cd42 ct42), sl42⟩) (c42 : PySem.W.codeIn K cd42 "_unit_roots_of_two" = true) (k42 : PySem.W.keepIn K (.ref f42) = true)
    (a43 : PySem.W.nsIn K mainGlobals "_prime_root" = some (some (.ref f43))) (l43 : K.lookup f43 = some ⟨oc43, od43, .func (PySem.W.fnOf "_prime_root" "_prime_root" (defArgs sPrimeRoot) (defBody sPrimeRoot) (defScope sPrimeRoot) .none kV43 dc43 pm43 an43 cd43 ct43), sl43⟩) (c43 : PySem.W.codeIn K cd43 "_prime_root" = true) (k43 : PySem.W.keepIn K (.ref f43) = true)
    (a44 : PySem.W.nsIn K mainGlobals "_least_non_residue" = some (some (.ref f44))) (l44 : K.lookup f44 = some ⟨oc44, od44, .func (PySem.W.fnOf "_least_non_residue" "_least_non_residue" (defArgs sLeastNonResidue) (defBody sLeastNonResidue) (defScope sLeastNonResidue) .none kV44 dc44 pm44 an44 cd44 ct44), sl44⟩) (c44 : PySem.W.codeIn K cd44 "_least_non_residue" = true) (k44 : PySem.W.keepIn K (.ref f44) = true)
    (a45 : PySem.W.nsIn K mainGlobals "_doublings_to_one" = some (some (.ref f45))) (l45 : K.lookup f45 = some ⟨oc45, od45, .func (PySem.W.fnOf "_doublings_to_one" "_doublings_to_one" (defArgs sDoublingsToOne) (defBody sDoublingsToOne) (defScope sDoublingsToOne) .none kV45 dc45 pm45 an45 cd45 ct45), sl45⟩) (c45 : PySem.W.codeIn K cd45 "_doublings_to_one" = true) (k45 : PySem.W.keepIn K (.ref f45) = true)
    (a46 : PySem.W.nsIn K mainGlobals "_lifted_root" = some (some (.ref f46))) (l46 : K.lookup f46 = some ⟨oc46, od46, .func (PySem.W.fnOf "_lifted_root" "_lifted_root" (defArgs sLiftedRoot) (defBody sLiftedRoot) (defScope sLiftedRoot) .none kV46 dc46 pm46 an46 cd46 ct46), sl46⟩) (c46 : PySem.W.codeIn K cd46 "_lifted_root" = true) (k46 : PySem.W.keepIn K (.ref f46) = true)
    (a47 : PySem.W.nsIn K mainGlobals "rooted_forms" = some (some (.ref f47))) (l47 : K.lookup f47 = some ⟨oc47, od47, .func (PySem.W.fnOf "rooted_forms" "rooted_forms" (defArgs sRootedForms) (defBody sRootedForms) (defScope sRootedForms) .none kV47 dc47 pm47 an47 cd47 ct47), sl47⟩) (c47 : PySem.W.codeIn K cd47 "rooted_forms" = true) (k47 : PySem.W.keepIn K (.ref f47) = true)
    (a48 : PySem.W.nsIn K mainGlobals "any_reduced" = some (some (.ref f48))) (l48 : K.lookup f48 = some ⟨oc48, od48, .func (PySem.W.fnOf "any_reduced" "any_reduced" (defArgs sAnyReduced) (defBody sAnyReduced) (defScope sAnyReduced) .none kV48 dc48 pm48 an48 cd48 ct48), sl48⟩) (c48 : PySem.W.codeIn K cd48 "any_reduced" = true) (k48 : PySem.W.keepIn K (.ref f48) = true)
    (a49 : PySem.W.nsIn K mainGlobals "ways_to_reduced" = some (some (.ref f49))) (l49 : K.lookup f49 = some ⟨oc49, od49, .func (PySem.W.fnOf "ways_to_reduced" "ways_to_reduced" (defArgs sWaysToReduced) (defBody sWaysToReduced) (defScope sWaysToReduced) .none kV49 dc49 pm49 an49 cd49 ct49), sl49⟩) (c49 : PySem.W.codeIn K cd49 "ways_to_reduced" = true) (k49 : PySem.W.keepIn K (.ref f49) = true)
    (a50 : PySem.W.nsIn K mainGlobals "change_by_ways" = some (some (.ref f50))) (l50 : K.lookup f50 = some ⟨oc50, od50, .func (PySem.W.fnOf "change_by_ways" "change_by_ways" (defArgs sChangeByWays) (defBody sChangeByWays) (defScope sChangeByWays) .none kV50 dc50 pm50 an50 cd50 ct50), sl50⟩) (c50 : PySem.W.codeIn K cd50 "change_by_ways" = true) (k50 : PySem.W.keepIn K (.ref f50) = true)
    (a51 : PySem.W.nsIn K mainGlobals "first_points" = some (some (.ref f51))) (l51 : K.lookup f51 = some ⟨oc51, od51, .func (PySem.W.fnOf "first_points" "first_points" (defArgs sFirstPoints) (defBody sFirstPoints) (defScope sFirstPoints) .none kV51 dc51 pm51 an51 cd51 ct51), sl51⟩) (c51 : PySem.W.codeIn K cd51 "first_points" = true) (k51 : PySem.W.keepIn K (.ref f51) = true)
    (a52 : PySem.W.nsIn K mainGlobals "definite_points" = some (some (.ref f52))) (l52 : K.lookup f52 = some ⟨oc52, od52, .func (PySem.W.fnOf "definite_points" "definite_points" (defArgs sDefinitePoints) (defBody sDefinitePoints) (defScope sDefinitePoints) .none kV52 dc52 pm52 an52 cd52 ct52), sl52⟩) (c52 : PySem.W.codeIn K cd52 "definite_points" = true) (k52 : PySem.W.keepIn K (.ref f52) = true)
    (a53 : PySem.W.nsIn K mainGlobals "definite_orbits" = some (some (.ref f53))) (l53 : K.lookup f53 = some ⟨oc53, od53, .func (PySem.W.fnOf "definite_orbits" "definite_orbits" (defArgs sDefiniteOrbits) (defBody sDefiniteOrbits) (defScope sDefiniteOrbits) .none kV53 dc53 pm53 an53 cd53 ct53), sl53⟩) (c53 : PySem.W.codeIn K cd53 "definite_orbits" = true) (k53 : PySem.W.keepIn K (.ref f53) = true)
    (a54 : PySem.W.nsIn K mainGlobals "is_represented" = some (some (.ref f54))) (l54 : K.lookup f54 = some ⟨oc54, od54, .func (PySem.W.fnOf "is_represented" "is_represented" (defArgs sIsRepresented) (defBody sIsRepresented) (defScope sIsRepresented) .none kV54 dc54 pm54 an54 cd54 ct54), sl54⟩) (c54 : PySem.W.codeIn K cd54 "is_represented" = true) (k54 : PySem.W.keepIn K (.ref f54) = true)
    (a55 : PySem.W.nsIn K mainGlobals "_law_cell" = some (some (.ref f55))) (l55 : K.lookup f55 = some ⟨oc55, od55, .func (PySem.W.fnOf "_law_cell" "_law_cell" (defArgs sLawCell) (defBody sLawCell) (defScope sLawCell) .none kV55 dc55 pm55 an55 cd55 ct55), sl55⟩) (c55 : PySem.W.codeIn K cd55 "_law_cell" = true) (k55 : PySem.W.keepIn K (.ref f55) = true)
    (a56 : PySem.W.nsIn K mainGlobals "_law_numbers" = some (some (.ref f56))) (l56 : K.lookup f56 = some ⟨oc56, od56, .func (PySem.W.fnOf "_law_numbers" "_law_numbers" (defArgs sLawNumbers) (defBody sLawNumbers) (defScope sLawNumbers) .none kV56 dc56 pm56 an56 cd56 ct56), sl56⟩) (c56 : PySem.W.codeIn K cd56 "_law_numbers" = true) (k56 : PySem.W.keepIn K (.ref f56) = true)
    (a57 : PySem.W.nsIn K mainGlobals "_law_state" = some (some (.ref f57))) (l57 : K.lookup f57 = some ⟨oc57, od57, .func (PySem.W.fnOf "_law_state" "_law_state" (defArgs sLawState) (defBody sLawState) (defScope sLawState) .none kV57 dc57 pm57 an57 cd57 ct57), sl57⟩) (c57 : PySem.W.codeIn K cd57 "_law_state" = true) (k57 : PySem.W.keepIn K (.ref f57) = true)
    (a58 : PySem.W.nsIn K mainGlobals "_law_next" = some (some (.ref f58))) (l58 : K.lookup f58 = some ⟨oc58, od58, .func (PySem.W.fnOf "_law_next" "_law_next" (defArgs sLawNext) (defBody sLawNext) (defScope sLawNext) .none kV58 dc58 pm58 an58 cd58 ct58), sl58⟩) (c58 : PySem.W.codeIn K cd58 "_law_next" = true) (k58 : PySem.W.keepIn K (.ref f58) = true)
    (a59 : PySem.W.nsIn K mainGlobals "_law_root" = some (some (.ref f59))) (l59 : K.lookup f59 = some ⟨oc59, od59, .func (PySem.W.fnOf "_law_root" "_law_root" (defArgs sLawRoot) (defBody sLawRoot) (defScope sLawRoot) .none kV59 dc59 pm59 an59 cd59 ct59), sl59⟩) (c59 : PySem.W.codeIn K cd59 "_law_root" = true) (k59 : PySem.W.keepIn K (.ref f59) = true)
    (a60 : PySem.W.nsIn K mainGlobals "_law_mul" = some (some (.ref f60))) (l60 : K.lookup f60 = some ⟨oc60, od60, .func (PySem.W.fnOf "_law_mul" "_law_mul" (defArgs sLawMul) (defBody sLawMul) (defScope sLawMul) .none kV60 dc60 pm60 an60 cd60 ct60), sl60⟩) (c60 : PySem.W.codeIn K cd60 "_law_mul" = true) (k60 : PySem.W.keepIn K (.ref f60) = true)
    (a61 : PySem.W.nsIn K mainGlobals "_law_at" = some (some (.ref f61))) (l61 : K.lookup f61 = some ⟨oc61, od61, .func (PySem.W.fnOf "_law_at" "_law_at" (defArgs sLawAt) (defBody sLawAt) (defScope sLawAt) .none kV61 dc61 pm61 an61 cd61 ct61), sl61⟩) (c61 : PySem.W.codeIn K cd61 "_law_at" = true) (k61 : PySem.W.keepIn K (.ref f61) = true)
    (a62 : PySem.W.nsIn K mainGlobals "_law_worth" = some (some (.ref f62))) (l62 : K.lookup f62 = some ⟨oc62, od62, .func (PySem.W.fnOf "_law_worth" "_law_worth" (defArgs sLawWorth) (defBody sLawWorth) (defScope sLawWorth) .none kV62 dc62 pm62 an62 cd62 ct62), sl62⟩) (c62 : PySem.W.codeIn K cd62 "_law_worth" = true) (k62 : PySem.W.keepIn K (.ref f62) = true)
    (a63 : PySem.W.nsIn K mainGlobals "_law_act" = some (some (.ref f63))) (l63 : K.lookup f63 = some ⟨oc63, od63, .func (PySem.W.fnOf "_law_act" "_law_act" (defArgs sLawAct) (defBody sLawAct) (defScope sLawAct) .none kV63 dc63 pm63 an63 cd63 ct63), sl63⟩) (c63 : PySem.W.codeIn K cd63 "_law_act" = true) (k63 : PySem.W.keepIn K (.ref f63) = true)
    (a64 : PySem.W.nsIn K mainGlobals "_law_change" = some (some (.ref f64))) (l64 : K.lookup f64 = some ⟨oc64, od64, .func (PySem.W.fnOf "_law_change" "_law_change" (defArgs sLawChange) (defBody sLawChange) (defScope sLawChange) .none kV64 dc64 pm64 an64 cd64 ct64), sl64⟩) (c64 : PySem.W.codeIn K cd64 "_law_change" = true) (k64 : PySem.W.keepIn K (.ref f64) = true)
    (a65 : PySem.W.nsIn K mainGlobals "_law_square" = some (some (.ref f65))) (l65 : K.lookup f65 = some ⟨oc65, od65, .func (PySem.W.fnOf "_law_square" "_law_square" (defArgs sLawSquare) (defBody sLawSquare) (defScope sLawSquare) .none kV65 dc65 pm65 an65 cd65 ct65), sl65⟩) (c65 : PySem.W.codeIn K cd65 "_law_square" = true) (k65 : PySem.W.keepIn K (.ref f65) = true)
    (a66 : PySem.W.nsIn K mainGlobals "_law_kind" = some (some (.ref f66))) (l66 : K.lookup f66 = some ⟨oc66, od66, .func (PySem.W.fnOf "_law_kind" "_law_kind" (defArgs sLawKind) (defBody sLawKind) (defScope sLawKind) .none kV66 dc66 pm66 an66 cd66 ct66), sl66⟩) (c66 : PySem.W.codeIn K cd66 "_law_kind" = true) (k66 : PySem.W.keepIn K (.ref f66) = true)
    (a67 : PySem.W.nsIn K mainGlobals "_law_form" = some (some (.ref f67))) (l67 : K.lookup f67 = some ⟨oc67, od67, .func (PySem.W.fnOf "_law_form" "_law_form" (defArgs sLawForm) (defBody sLawForm) (defScope sLawForm) .none kV67 dc67 pm67 an67 cd67 ct67), sl67⟩) (c67 : PySem.W.codeIn K cd67 "_law_form" = true) (k67 : PySem.W.keepIn K (.ref f67) = true)
    (a68 : PySem.W.nsIn K mainGlobals "_law_search" = some (some (.ref f68))) (l68 : K.lookup f68 = some ⟨oc68, od68, .func (PySem.W.fnOf "_law_search" "_law_search" (defArgs sLawSearch) (defBody sLawSearch) (defScope sLawSearch) .none kV68 dc68 pm68 an68 cd68 ct68), sl68⟩) (c68 : PySem.W.codeIn K cd68 "_law_search" = true) (k68 : PySem.W.keepIn K (.ref f68) = true)
    (a69 : PySem.W.nsIn K mainGlobals "law" = some (some (.ref f69))) (l69 : K.lookup f69 = some ⟨oc69, od69, .func (PySem.W.fnOf "law" "law" (defArgs sLaw) (defBody sLaw) (defScope sLaw) .none kV69 dc69 pm69 an69 cd69 ct69), sl69⟩) (c69 : PySem.W.codeIn K cd69 "law" = true) (k69 : PySem.W.keepIn K (.ref f69) = true)
    (z0 : PySem.W.nsIn K mainGlobals "abs" = some none)
    (z1 : PySem.W.nsIn K mainGlobals "bool" = some none)
    (z2 : PySem.W.nsIn K mainGlobals "int" = some none)
    (z3 : PySem.W.nsIn K mainGlobals "isinstance" = some none)
    (z4 : PySem.W.nsIn K mainGlobals "len" = some none)
    (z5 : PySem.W.nsIn K mainGlobals "list" = some none)
    (z6 : PySem.W.nsIn K mainGlobals "max" = some none)
    (z7 : PySem.W.nsIn K mainGlobals "range" = some none)
    (z8 : PySem.W.nsIn K mainGlobals "sorted" = some none)
    (z9 : PySem.W.nsIn K mainGlobals "tuple" = some none)
    (i0 : PySem.W.nsIn K mainGlobals "gcd" = some (some (.builtin "math.gcd")))
    (i1 : PySem.W.nsIn K mainGlobals "isqrt" = some (some (.builtin "math.isqrt")))
    {fw0 : Addr} {odw0 : Option Addr} {itw0 : Array Value} {nw0 : Nat} {slw0 : Array (Option Value)}
    (w0 : PySem.W.nsIn K mainGlobals "WITNESSES" = some (some (.ref fw0))) (x0 : K.lookup fw0 = some ⟨.type "tuple", odw0, .seq itw0 nw0, slw0⟩) (y0 : itw0.size ≤ sizeLine) (v0 : Vals [.int 2, .int 3, .int 5, .int 7, .int 11, .int 13, .int 17, .int 19, .int 23, .int 29, .int 31, .int 37] itw0.toList)
    {fw1 : Addr} {odw1 : Option Addr} {itw1 : Array Value} {nw1 : Nat} {slw1 : Array (Option Value)}
    (w1 : PySem.W.nsIn K mainGlobals "UNIT" = some (some (.ref fw1))) (x1 : K.lookup fw1 = some ⟨.type "tuple", odw1, .seq itw1 nw1, slw1⟩) (y1 : itw1.size ≤ sizeLine) (v1 : Vals [.int 1, .int 0, .int 0, .int 1] itw1.toList)
    {fw2 : Addr} {odw2 : Option Addr} {itw2 : Array Value} {nw2 : Nat} {slw2 : Array (Option Value)}
    {fw2_0 : Addr} {odw2_0 : Option Addr} {itw2_0 : Array Value} {nw2_0 : Nat} {slw2_0 : Array (Option Value)}
    {fw2_1 : Addr} {odw2_1 : Option Addr} {itw2_1 : Array Value} {nw2_1 : Nat} {slw2_1 : Array (Option Value)}
    {fw2_2 : Addr} {odw2_2 : Option Addr} {itw2_2 : Array Value} {nw2_2 : Nat} {slw2_2 : Array (Option Value)}
    {fw2_3 : Addr} {odw2_3 : Option Addr} {itw2_3 : Array Value} {nw2_3 : Nat} {slw2_3 : Array (Option Value)}
    {fw2_4 : Addr} {odw2_4 : Option Addr} {itw2_4 : Array Value} {nw2_4 : Nat} {slw2_4 : Array (Option Value)}
    {fw2_5 : Addr} {odw2_5 : Option Addr} {itw2_5 : Array Value} {nw2_5 : Nat} {slw2_5 : Array (Option Value)}
    (w2 : PySem.W.nsIn K mainGlobals "UNITS_OF_3" = some (some (.ref fw2))) (x2 : K.lookup fw2 = some ⟨.type "tuple", odw2, .seq itw2 nw2, slw2⟩) (y2 : itw2.size ≤ sizeLine) (v2 : Vals [.ref fw2_0, .ref fw2_1, .ref fw2_2, .ref fw2_3, .ref fw2_4, .ref fw2_5] itw2.toList)
    (x2_0 : K.lookup fw2_0 = some ⟨.type "tuple", odw2_0, .seq itw2_0 nw2_0, slw2_0⟩) (y2_0 : itw2_0.size ≤ sizeLine) (v2_0 : Vals [.int 2, .int 0] itw2_0.toList)
    (x2_1 : K.lookup fw2_1 = some ⟨.type "tuple", odw2_1, .seq itw2_1 nw2_1, slw2_1⟩) (y2_1 : itw2_1.size ≤ sizeLine) (v2_1 : Vals [.int 1, .int 1] itw2_1.toList)
    (x2_2 : K.lookup fw2_2 = some ⟨.type "tuple", odw2_2, .seq itw2_2 nw2_2, slw2_2⟩) (y2_2 : itw2_2.size ≤ sizeLine) (v2_2 : Vals [.int (-1), .int 1] itw2_2.toList)
    (x2_3 : K.lookup fw2_3 = some ⟨.type "tuple", odw2_3, .seq itw2_3 nw2_3, slw2_3⟩) (y2_3 : itw2_3.size ≤ sizeLine) (v2_3 : Vals [.int (-2), .int 0] itw2_3.toList)
    (x2_4 : K.lookup fw2_4 = some ⟨.type "tuple", odw2_4, .seq itw2_4 nw2_4, slw2_4⟩) (y2_4 : itw2_4.size ≤ sizeLine) (v2_4 : Vals [.int (-1), .int (-1)] itw2_4.toList)
    (x2_5 : K.lookup fw2_5 = some ⟨.type "tuple", odw2_5, .seq itw2_5 nw2_5, slw2_5⟩) (y2_5 : itw2_5.size ≤ sizeLine) (v2_5 : Vals [.int 1, .int (-1)] itw2_5.toList)
    {fw3 : Addr} {odw3 : Option Addr} {itw3 : Array Value} {nw3 : Nat} {slw3 : Array (Option Value)}
    {fw3_0 : Addr} {odw3_0 : Option Addr} {itw3_0 : Array Value} {nw3_0 : Nat} {slw3_0 : Array (Option Value)}
    {fw3_1 : Addr} {odw3_1 : Option Addr} {itw3_1 : Array Value} {nw3_1 : Nat} {slw3_1 : Array (Option Value)}
    {fw3_2 : Addr} {odw3_2 : Option Addr} {itw3_2 : Array Value} {nw3_2 : Nat} {slw3_2 : Array (Option Value)}
    {fw3_3 : Addr} {odw3_3 : Option Addr} {itw3_3 : Array Value} {nw3_3 : Nat} {slw3_3 : Array (Option Value)}
    (w3 : PySem.W.nsIn K mainGlobals "UNITS_OF_4" = some (some (.ref fw3))) (x3 : K.lookup fw3 = some ⟨.type "tuple", odw3, .seq itw3 nw3, slw3⟩) (y3 : itw3.size ≤ sizeLine) (v3 : Vals [.ref fw3_0, .ref fw3_1, .ref fw3_2, .ref fw3_3] itw3.toList)
    (x3_0 : K.lookup fw3_0 = some ⟨.type "tuple", odw3_0, .seq itw3_0 nw3_0, slw3_0⟩) (y3_0 : itw3_0.size ≤ sizeLine) (v3_0 : Vals [.int 2, .int 0] itw3_0.toList)
    (x3_1 : K.lookup fw3_1 = some ⟨.type "tuple", odw3_1, .seq itw3_1 nw3_1, slw3_1⟩) (y3_1 : itw3_1.size ≤ sizeLine) (v3_1 : Vals [.int 0, .int 1] itw3_1.toList)
    (x3_2 : K.lookup fw3_2 = some ⟨.type "tuple", odw3_2, .seq itw3_2 nw3_2, slw3_2⟩) (y3_2 : itw3_2.size ≤ sizeLine) (v3_2 : Vals [.int (-2), .int 0] itw3_2.toList)
    (x3_3 : K.lookup fw3_3 = some ⟨.type "tuple", odw3_3, .seq itw3_3 nw3_3, slw3_3⟩) (y3_3 : itw3_3.size ≤ sizeLine) (v3_3 : Vals [.int 0, .int (-1)] itw3_3.toList)
    {fw4 : Addr} {odw4 : Option Addr} {itw4 : Array Value} {nw4 : Nat} {slw4 : Array (Option Value)}
    {fw4_0 : Addr} {odw4_0 : Option Addr} {itw4_0 : Array Value} {nw4_0 : Nat} {slw4_0 : Array (Option Value)}
    {fw4_1 : Addr} {odw4_1 : Option Addr} {itw4_1 : Array Value} {nw4_1 : Nat} {slw4_1 : Array (Option Value)}
    (w4 : PySem.W.nsIn K mainGlobals "OTHER_UNITS" = some (some (.ref fw4))) (x4 : K.lookup fw4 = some ⟨.type "tuple", odw4, .seq itw4 nw4, slw4⟩) (y4 : itw4.size ≤ sizeLine) (v4 : Vals [.ref fw4_0, .ref fw4_1] itw4.toList)
    (x4_0 : K.lookup fw4_0 = some ⟨.type "tuple", odw4_0, .seq itw4_0 nw4_0, slw4_0⟩) (y4_0 : itw4_0.size ≤ sizeLine) (v4_0 : Vals [.int 2, .int 0] itw4_0.toList)
    (x4_1 : K.lookup fw4_1 = some ⟨.type "tuple", odw4_1, .seq itw4_1 nw4_1, slw4_1⟩) (y4_1 : itw4_1.size ≤ sizeLine) (v4_1 : Vals [.int (-2), .int 0] itw4_1.toList)
    : ∃ fd : FuncData, (∀ (s : Shared) (v : Value), BindsTo s fd ⟨[v], []⟩ [("script", v)]) ∧ ∀ base : Heap, K.In base → base.Ns mainGlobals mg → FnOk l.prog w K mg base CX0 14 f fd ["script"] (spLaw K) := by
  have e := hfa.symm.trans (PySem.W.mg_of X G a69)
  cases e
  have F0 := fun_mk (st := sBezout) l0 c0 k0
  have F1 := fun_mk (st := sMeasure) l1 c1 k1
  have F2 := fun_mk (st := sFloorRoot) l2 c2 k2
  have F3 := fun_mk (st := sIsSquare) l3 c3 k3
  have F4 := fun_mk (st := sPower) l4 c4 k4
  have F5 := fun_mk (st := sPowerModulo) l5 c5 k5
  have F6 := fun_mk (st := sTakenOut) l6 c6 k6
  have F7 := fun_mk (st := sIsPrime) l7 c7 k7
  have F8 := fun_mk (st := sBehavesAsPrime) l8 c8 k8
  have F9 := fun_mk (st := sPrimeParts) l9 c9 k9
  have F10 := fun_mk (st := sLeastMeasure) l10 c10 k10
  have F11 := fun_mk (st := sSquareMeasures) l11 c11 k11
  have F12 := fun_mk (st := sHalved) l12 c12 k12
  have F13 := fun_mk (st := sProducts) l13 c13 k13
  have F14 := fun_mk (st := sDiscriminant) l14 c14 k14
  have F15 := fun_mk (st := sContent) l15 c15 k15
  have F16 := fun_mk (st := sWorth) l16 c16 k16
  have F17 := fun_mk (st := sAct) l17 c17 k17
  have F18 := fun_mk (st := sScaled) l18 c18 k18
  have F19 := fun_mk (st := sDivided) l19 c19 k19
  have F20 := fun_mk (st := sKind) l20 c20 k20
  have F21 := fun_mk (st := sUnitChange) l21 c21 k21
  have F22 := fun_mk (st := sMultiply) l22 c22 k22
  have F23 := fun_mk (st := sDeterminant) l23 c23 k23
  have F24 := fun_mk (st := sApply) l24 c24 k24
  have F25 := fun_mk (st := sNegative) l25 c25 k25
  have F26 := fun_mk (st := sInverse) l26 c26 k26
  have F27 := fun_mk (st := sIsReducedDefinite) l27 c27 k27
  have F28 := fun_mk (st := sReduceDefinite) l28 c28 k28
  have F29 := fun_mk (st := sStepDown) l29 c29 k29
  have F30 := fun_mk (st := sSelfChanges) l30 c30 k30
  have F31 := fun_mk (st := sIsReducedIndefinite) l31 c31 k31
  have F32 := fun_mk (st := sReduceIndefinite) l32 c32 k32
  have F33 := fun_mk (st := sStepNear) l33 c33 k33
  have F34 := fun_mk (st := sStepOf) l34 c34 k34
  have F35 := fun_mk (st := sCycle) l35 c35 k35
  have F36 := fun_mk (st := sSelfGroup) l36 c36 k36
  have F37 := fun_mk (st := sSquareRoots) l37 c37 k37
  have F38 := fun_mk (st := sIsResidue) l38 c38 k38
  have F39 := fun_mk (st := sJoined) l39 c39 k39
  have F40 := fun_mk (st := sPowerRoots) l40 c40 k40
  have F41 := fun_mk (st := sUnitRoots) l41 c41 k41
  have F42 := fun_mk (st := sUnitRootsOfTwo) l42 c42 k42
  have F43 := fun_mk (st := sPrimeRoot) l43 c43 k43
  have F44 := fun_mk (st := sLeastNonResidue) l44 c44 k44
  have F45 := fun_mk (st := sDoublingsToOne) l45 c45 k45
  have F46 := fun_mk (st := sLiftedRoot) l46 c46 k46
  have F47 := fun_mk (st := sRootedForms) l47 c47 k47
  have F48 := fun_mk (st := sAnyReduced) l48 c48 k48
  have F49 := fun_mk (st := sWaysToReduced) l49 c49 k49
  have F50 := fun_mk (st := sChangeByWays) l50 c50 k50
  have F51 := fun_mk (st := sFirstPoints) l51 c51 k51
  have F52 := fun_mk (st := sDefinitePoints) l52 c52 k52
  have F53 := fun_mk (st := sDefiniteOrbits) l53 c53 k53
  have F54 := fun_mk (st := sIsRepresented) l54 c54 k54
  have F55 := fun_mk (st := sLawCell) l55 c55 k55
  have F56 := fun_mk (st := sLawNumbers) l56 c56 k56
  have F57 := fun_mk (st := sLawState) l57 c57 k57
  have F58 := fun_mk (st := sLawNext) l58 c58 k58
  have F59 := fun_mk (st := sLawRoot) l59 c59 k59
  have F60 := fun_mk (st := sLawMul) l60 c60 k60
  have F61 := fun_mk (st := sLawAt) l61 c61 k61
  have F62 := fun_mk (st := sLawWorth) l62 c62 k62
  have F63 := fun_mk (st := sLawAct) l63 c63 k63
  have F64 := fun_mk (st := sLawChange) l64 c64 k64
  have F65 := fun_mk (st := sLawSquare) l65 c65 k65
  have F66 := fun_mk (st := sLawKind) l66 c66 k66
  have F67 := fun_mk (st := sLawForm) l67 c67 k67
  have F68 := fun_mk (st := sLawSearch) l68 c68 k68
  have F69 := fun_mk (st := sLaw) l69 c69 k69
  have b0 := F0.binds (ps := ["a", "b"]) fun _ _ _ _ _ _ us hl => match us, hl with | [_, _], _ => rfl
  have b1 := F1.binds (ps := ["numbers"]) fun _ _ _ _ _ _ us hl => match us, hl with | [_], _ => rfl
  have b2 := F2.binds (ps := ["n"]) fun _ _ _ _ _ _ us hl => match us, hl with | [_], _ => rfl
  have b3 := F3.binds (ps := ["n"]) fun _ _ _ _ _ _ us hl => match us, hl with | [_], _ => rfl
  have b4 := F4.binds (ps := ["base", "many"]) fun _ _ _ _ _ _ us hl => match us, hl with | [_, _], _ => rfl
  have b5 := F5.binds (ps := ["base", "many", "modulus"]) fun _ _ _ _ _ _ us hl => match us, hl with | [_, _, _], _ => rfl
  have b6 := F6.binds (ps := ["n", "p"]) fun _ _ _ _ _ _ us hl => match us, hl with | [_, _], _ => rfl
  have b7 := F7.binds (ps := ["n"]) fun _ _ _ _ _ _ us hl => match us, hl with | [_], _ => rfl
  have b8 := F8.binds (ps := ["n", "base", "many", "odd"]) fun _ _ _ _ _ _ us hl => match us, hl with | [_, _, _, _], _ => rfl
  have b9 := F9.binds (ps := ["n"]) fun _ _ _ _ _ _ us hl => match us, hl with | [_], _ => rfl
  have b10 := F10.binds (ps := ["n", "start"]) fun _ _ _ _ _ _ us hl => match us, hl with | [_, _], _ => rfl
  have b11 := F11.binds (ps := ["n"]) fun _ _ _ _ _ _ us hl => match us, hl with | [_], _ => rfl
  have b12 := F12.binds (ps := ["parts"]) fun _ _ _ _ _ _ us hl => match us, hl with | [_], _ => rfl
  have b13 := F13.binds (ps := ["parts"]) fun _ _ _ _ _ _ us hl => match us, hl with | [_], _ => rfl
  have b14 := F14.binds (ps := ["form"]) fun _ _ _ _ _ _ us hl => match us, hl with | [_], _ => rfl
  have b15 := F15.binds (ps := ["form"]) fun _ _ _ _ _ _ us hl => match us, hl with | [_], _ => rfl
  have b16 := F16.binds (ps := ["form", "point"]) fun _ _ _ _ _ _ us hl => match us, hl with | [_, _], _ => rfl
  have b17 := F17.binds (ps := ["form", "m"]) fun _ _ _ _ _ _ us hl => match us, hl with | [_, _], _ => rfl
  have b18 := F18.binds (ps := ["form", "number"]) fun _ _ _ _ _ _ us hl => match us, hl with | [_, _], _ => rfl
  have b19 := F19.binds (ps := ["form", "number"]) fun _ _ _ _ _ _ us hl => match us, hl with | [_, _], _ => rfl
  have b20 := F20.binds (ps := ["form"]) fun _ _ _ _ _ _ us hl => match us, hl with | [_], _ => rfl
  have b21 := F21.binds (ps := ["form", "t", "u"]) fun _ _ _ _ _ _ us hl => match us, hl with | [_, _, _], _ => rfl
  have b22 := F22.binds (ps := ["m", "n"]) fun _ _ _ _ _ _ us hl => match us, hl with | [_, _], _ => rfl
  have b23 := F23.binds (ps := ["m"]) fun _ _ _ _ _ _ us hl => match us, hl with | [_], _ => rfl
  have b24 := F24.binds (ps := ["m", "point"]) fun _ _ _ _ _ _ us hl => match us, hl with | [_, _], _ => rfl
  have b25 := F25.binds (ps := ["m"]) fun _ _ _ _ _ _ us hl => match us, hl with | [_], _ => rfl
  have b26 := F26.binds (ps := ["m"]) fun _ _ _ _ _ _ us hl => match us, hl with | [_], _ => rfl
  have b27 := F27.binds (ps := ["form"]) fun _ _ _ _ _ _ us hl => match us, hl with | [_], _ => rfl
  have b28 := F28.binds (ps := ["form"]) fun _ _ _ _ _ _ us hl => match us, hl with | [_], _ => rfl
  have b29 := F29.binds (ps := ["form"]) fun _ _ _ _ _ _ us hl => match us, hl with | [_], _ => rfl
  have b30 := F30.binds (ps := ["form"]) fun _ _ _ _ _ _ us hl => match us, hl with | [_], _ => rfl
  have b31 := F31.binds (ps := ["form"]) fun _ _ _ _ _ _ us hl => match us, hl with | [_], _ => rfl
  have b32 := F32.binds (ps := ["form"]) fun _ _ _ _ _ _ us hl => match us, hl with | [_], _ => rfl
  have b33 := F33.binds (ps := ["form"]) fun _ _ _ _ _ _ us hl => match us, hl with | [_], _ => rfl
  have b34 := F34.binds (ps := ["form"]) fun _ _ _ _ _ _ us hl => match us, hl with | [_], _ => rfl
  have b35 := F35.binds (ps := ["form"]) fun _ _ _ _ _ _ us hl => match us, hl with | [_], _ => rfl
  have b36 := F36.binds (ps := ["form"]) fun _ _ _ _ _ _ us hl => match us, hl with | [_], _ => rfl
  have b37 := F37.binds (ps := ["d", "m"]) fun _ _ _ _ _ _ us hl => match us, hl with | [_, _], _ => rfl
  have b38 := F38.binds (ps := ["d", "p"]) fun _ _ _ _ _ _ us hl => match us, hl with | [_, _], _ => rfl
  have b39 := F39.binds (ps := ["roots", "modulus", "others", "part"]) fun _ _ _ _ _ _ us hl => match us, hl with | [_, _, _, _], _ => rfl
  have b40 := F40.binds (ps := ["d", "p", "many"]) fun _ _ _ _ _ _ us hl => match us, hl with | [_, _, _], _ => rfl
  have b41 := F41.binds (ps := ["unit", "p", "many"]) fun _ _ _ _ _ _ us hl => match us, hl with | [_, _, _], _ => rfl
  have b42 := F42.binds (ps := ["unit", "many"]) fun _ _ _ _ _ _ us hl => match us, hl with | [_, _], _ => rfl
  have b43 := F43.binds (ps := ["unit", "p"]) fun _ _ _ _ _ _ us hl => match us, hl with | [_, _], _ => rfl
  have b44 := F44.binds (ps := ["p"]) fun _ _ _ _ _ _ us hl => match us, hl with | [_], _ => rfl
  have b45 := F45.binds (ps := ["number", "p"]) fun _ _ _ _ _ _ us hl => match us, hl with | [_, _], _ => rfl
  have b46 := F46.binds (ps := ["root", "unit", "p", "many"]) fun _ _ _ _ _ _ us hl => match us, hl with | [_, _, _, _], _ => rfl
  have b47 := F47.binds (ps := ["d", "n"]) fun _ _ _ _ _ _ us hl => match us, hl with | [_, _], _ => rfl
  have b48 := F48.binds (ps := ["form"]) fun _ _ _ _ _ _ us hl => match us, hl with | [_], _ => rfl
  have b49 := F49.binds (ps := ["form"]) fun _ _ _ _ _ _ us hl => match us, hl with | [_], _ => rfl
  have b50 := F50.binds (ps := ["ways", "form"]) fun _ _ _ _ _ _ us hl => match us, hl with | [_, _], _ => rfl
  have b51 := F51.binds (ps := ["form", "n"]) fun _ _ _ _ _ _ us hl => match us, hl with | [_, _], _ => rfl
  have b52 := F52.binds (ps := ["form", "n"]) fun _ _ _ _ _ _ us hl => match us, hl with | [_, _], _ => rfl
  have b53 := F53.binds (ps := ["form", "firsts"]) fun _ _ _ _ _ _ us hl => match us, hl with | [_, _], _ => rfl
  have b54 := F54.binds (ps := ["form", "n"]) fun _ _ _ _ _ _ us hl => match us, hl with | [_, _], _ => rfl
  have b55 := F55.binds (ps := ["script", "k"]) fun _ _ _ _ _ _ us hl => match us, hl with | [_, _], _ => rfl
  have b56 := F56.binds (ps := ["cell", "many"]) fun _ _ _ _ _ _ us hl => match us, hl with | [_, _], _ => rfl
  have b57 := F57.binds (ps := ["script"]) fun _ _ _ _ _ _ us hl => match us, hl with | [_], _ => rfl
  have b58 := F58.binds (ps := ["state", "many"]) fun _ _ _ _ _ _ us hl => match us, hl with | [_, _], _ => rfl
  have b59 := F59.binds (ps := ["n"]) fun _ _ _ _ _ _ us hl => match us, hl with | [_], _ => rfl
  have b60 := F60.binds (ps := ["m", "n"]) fun _ _ _ _ _ _ us hl => match us, hl with | [_, _], _ => rfl
  have b61 := F61.binds (ps := ["m", "x", "y"]) fun _ _ _ _ _ _ us hl => match us, hl with | [_, _, _], _ => rfl
  have b62 := F62.binds (ps := ["form", "x", "y"]) fun _ _ _ _ _ _ us hl => match us, hl with | [_, _, _], _ => rfl
  have b63 := F63.binds (ps := ["form", "m"]) fun _ _ _ _ _ _ us hl => match us, hl with | [_, _], _ => rfl
  have b64 := F64.binds (ps := ["state", "many"]) fun _ _ _ _ _ _ us hl => match us, hl with | [_, _], _ => rfl
  have b65 := F65.binds (ps := ["n"]) fun _ _ _ _ _ _ us hl => match us, hl with | [_], _ => rfl
  have b66 := F66.binds (ps := ["form"]) fun _ _ _ _ _ _ us hl => match us, hl with | [_], _ => rfl
  have b67 := F67.binds (ps := ["state", "sort"]) fun _ _ _ _ _ _ us hl => match us, hl with | [_, _], _ => rfl
  have b68 := F68.binds (ps := ["form", "n"]) fun _ _ _ _ _ _ us hl => match us, hl with | [_, _], _ => rfl
  have b69 := F69.binds (ps := ["script"]) fun _ _ _ _ _ _ us hl => match us, hl with | [_], _ => rfl
  let fa : Nat → Addr := fun i => [f0, f1, f2, f3, f4, f5, f6, f7, f8, f9, f10, f11, f12, f13, f14, f15, f16, f17, f18, f19, f20, f21, f22, f23, f24, f25, f26, f27, f28, f29, f30, f31, f32, f33, f34, f35, f36, f37, f38, f39, f40, f41, f42, f43, f44, f45, f46, f47, f48, f49, f50, f51, f52, f53, f54, f55, f56, f57, f58, f59, f60, f61, f62, f63, f64, f65, f66, f67, f68, f, fw0, fw1, fw2, fw3, fw4].getD i 0
  let fd : Nat → FuncData := fun i => match i with
    | 0 => PySem.W.fnOf "bezout" "bezout" (defArgs sBezout) (defBody sBezout) (defScope sBezout) .none kV0 dc0 pm0 an0 cd0 ct0
    | 1 => PySem.W.fnOf "measure" "measure" (defArgs sMeasure) (defBody sMeasure) (defScope sMeasure) .none kV1 dc1 pm1 an1 cd1 ct1
    | 2 => PySem.W.fnOf "floor_root" "floor_root" (defArgs sFloorRoot) (defBody sFloorRoot) (defScope sFloorRoot) .none kV2 dc2 pm2 an2 cd2 ct2
    | 3 => PySem.W.fnOf "is_square" "is_square" (defArgs sIsSquare) (defBody sIsSquare) (defScope sIsSquare) .none kV3 dc3 pm3 an3 cd3 ct3
    | 4 => PySem.W.fnOf "power" "power" (defArgs sPower) (defBody sPower) (defScope sPower) .none kV4 dc4 pm4 an4 cd4 ct4
    | 5 => PySem.W.fnOf "power_modulo" "power_modulo" (defArgs sPowerModulo) (defBody sPowerModulo) (defScope sPowerModulo) .none kV5 dc5 pm5 an5 cd5 ct5
    | 6 => PySem.W.fnOf "taken_out" "taken_out" (defArgs sTakenOut) (defBody sTakenOut) (defScope sTakenOut) .none kV6 dc6 pm6 an6 cd6 ct6
    | 7 => PySem.W.fnOf "is_prime" "is_prime" (defArgs sIsPrime) (defBody sIsPrime) (defScope sIsPrime) .none kV7 dc7 pm7 an7 cd7 ct7
    | 8 => PySem.W.fnOf "_behaves_as_prime" "_behaves_as_prime" (defArgs sBehavesAsPrime) (defBody sBehavesAsPrime) (defScope sBehavesAsPrime) .none kV8 dc8 pm8 an8 cd8 ct8
    | 9 => PySem.W.fnOf "prime_parts" "prime_parts" (defArgs sPrimeParts) (defBody sPrimeParts) (defScope sPrimeParts) .none kV9 dc9 pm9 an9 cd9 ct9
    | 10 => PySem.W.fnOf "_least_measure" "_least_measure" (defArgs sLeastMeasure) (defBody sLeastMeasure) (defScope sLeastMeasure) .none kV10 dc10 pm10 an10 cd10 ct10
    | 11 => PySem.W.fnOf "square_measures" "square_measures" (defArgs sSquareMeasures) (defBody sSquareMeasures) (defScope sSquareMeasures) .none kV11 dc11 pm11 an11 cd11 ct11
    | 12 => PySem.W.fnOf "halved" "halved" (defArgs sHalved) (defBody sHalved) (defScope sHalved) .none kV12 dc12 pm12 an12 cd12 ct12
    | 13 => PySem.W.fnOf "products" "products" (defArgs sProducts) (defBody sProducts) (defScope sProducts) .none kV13 dc13 pm13 an13 cd13 ct13
    | 14 => PySem.W.fnOf "discriminant" "discriminant" (defArgs sDiscriminant) (defBody sDiscriminant) (defScope sDiscriminant) .none kV14 dc14 pm14 an14 cd14 ct14
    | 15 => PySem.W.fnOf "content" "content" (defArgs sContent) (defBody sContent) (defScope sContent) .none kV15 dc15 pm15 an15 cd15 ct15
    | 16 => PySem.W.fnOf "worth" "worth" (defArgs sWorth) (defBody sWorth) (defScope sWorth) .none kV16 dc16 pm16 an16 cd16 ct16
    | 17 => PySem.W.fnOf "act" "act" (defArgs sAct) (defBody sAct) (defScope sAct) .none kV17 dc17 pm17 an17 cd17 ct17
    | 18 => PySem.W.fnOf "scaled" "scaled" (defArgs sScaled) (defBody sScaled) (defScope sScaled) .none kV18 dc18 pm18 an18 cd18 ct18
    | 19 => PySem.W.fnOf "divided" "divided" (defArgs sDivided) (defBody sDivided) (defScope sDivided) .none kV19 dc19 pm19 an19 cd19 ct19
    | 20 => PySem.W.fnOf "kind" "kind" (defArgs sKind) (defBody sKind) (defScope sKind) .none kV20 dc20 pm20 an20 cd20 ct20
    | 21 => PySem.W.fnOf "unit_change" "unit_change" (defArgs sUnitChange) (defBody sUnitChange) (defScope sUnitChange) .none kV21 dc21 pm21 an21 cd21 ct21
    | 22 => PySem.W.fnOf "multiply" "multiply" (defArgs sMultiply) (defBody sMultiply) (defScope sMultiply) .none kV22 dc22 pm22 an22 cd22 ct22
    | 23 => PySem.W.fnOf "determinant" "determinant" (defArgs sDeterminant) (defBody sDeterminant) (defScope sDeterminant) .none kV23 dc23 pm23 an23 cd23 ct23
    | 24 => PySem.W.fnOf "apply" "apply" (defArgs sApply) (defBody sApply) (defScope sApply) .none kV24 dc24 pm24 an24 cd24 ct24
    | 25 => PySem.W.fnOf "negative" "negative" (defArgs sNegative) (defBody sNegative) (defScope sNegative) .none kV25 dc25 pm25 an25 cd25 ct25
    | 26 => PySem.W.fnOf "inverse" "inverse" (defArgs sInverse) (defBody sInverse) (defScope sInverse) .none kV26 dc26 pm26 an26 cd26 ct26
    | 27 => PySem.W.fnOf "is_reduced" "is_reduced" (defArgs sIsReducedDefinite) (defBody sIsReducedDefinite) (defScope sIsReducedDefinite) .none kV27 dc27 pm27 an27 cd27 ct27
    | 28 => PySem.W.fnOf "reduce_definite" "reduce_definite" (defArgs sReduceDefinite) (defBody sReduceDefinite) (defScope sReduceDefinite) .none kV28 dc28 pm28 an28 cd28 ct28
    | 29 => PySem.W.fnOf "_step_down" "_step_down" (defArgs sStepDown) (defBody sStepDown) (defScope sStepDown) .none kV29 dc29 pm29 an29 cd29 ct29
    | 30 => PySem.W.fnOf "self_changes" "self_changes" (defArgs sSelfChanges) (defBody sSelfChanges) (defScope sSelfChanges) .none kV30 dc30 pm30 an30 cd30 ct30
    | 31 => PySem.W.fnOf "is_reduced" "is_reduced" (defArgs sIsReducedIndefinite) (defBody sIsReducedIndefinite) (defScope sIsReducedIndefinite) .none kV31 dc31 pm31 an31 cd31 ct31
    | 32 => PySem.W.fnOf "reduce_indefinite" "reduce_indefinite" (defArgs sReduceIndefinite) (defBody sReduceIndefinite) (defScope sReduceIndefinite) .none kV32 dc32 pm32 an32 cd32 ct32
    | 33 => PySem.W.fnOf "_step_near" "_step_near" (defArgs sStepNear) (defBody sStepNear) (defScope sStepNear) .none kV33 dc33 pm33 an33 cd33 ct33
    | 34 => PySem.W.fnOf "step_of" "step_of" (defArgs sStepOf) (defBody sStepOf) (defScope sStepOf) .none kV34 dc34 pm34 an34 cd34 ct34
    | 35 => PySem.W.fnOf "cycle" "cycle" (defArgs sCycle) (defBody sCycle) (defScope sCycle) .none kV35 dc35 pm35 an35 cd35 ct35
    | 36 => PySem.W.fnOf "self_group" "self_group" (defArgs sSelfGroup) (defBody sSelfGroup) (defScope sSelfGroup) .none kV36 dc36 pm36 an36 cd36 ct36
    | 37 => PySem.W.fnOf "square_roots" "square_roots" (defArgs sSquareRoots) (defBody sSquareRoots) (defScope sSquareRoots) .none kV37 dc37 pm37 an37 cd37 ct37
    | 38 => PySem.W.fnOf "is_residue" "is_residue" (defArgs sIsResidue) (defBody sIsResidue) (defScope sIsResidue) .none kV38 dc38 pm38 an38 cd38 ct38
    | 39 => PySem.W.fnOf "_joined" "_joined" (defArgs sJoined) (defBody sJoined) (defScope sJoined) .none kV39 dc39 pm39 an39 cd39 ct39
    | 40 => PySem.W.fnOf "_power_roots" "_power_roots" (defArgs sPowerRoots) (defBody sPowerRoots) (defScope sPowerRoots) .none kV40 dc40 pm40 an40 cd40 ct40
    | 41 => PySem.W.fnOf "_unit_roots" "_unit_roots" (defArgs sUnitRoots) (defBody sUnitRoots) (defScope sUnitRoots) .none kV41 dc41 pm41 an41 cd41 ct41
    | 42 => PySem.W.fnOf "_unit_roots_of_two" "_unit_roots_of_two" (defArgs sUnitRootsOfTwo) (defBody sUnitRootsOfTwo) (defScope sUnitRootsOfTwo) .none kV42 dc42 pm42 an42 cd42 ct42
    | 43 => PySem.W.fnOf "_prime_root" "_prime_root" (defArgs sPrimeRoot) (defBody sPrimeRoot) (defScope sPrimeRoot) .none kV43 dc43 pm43 an43 cd43 ct43
    | 44 => PySem.W.fnOf "_least_non_residue" "_least_non_residue" (defArgs sLeastNonResidue) (defBody sLeastNonResidue) (defScope sLeastNonResidue) .none kV44 dc44 pm44 an44 cd44 ct44
    | 45 => PySem.W.fnOf "_doublings_to_one" "_doublings_to_one" (defArgs sDoublingsToOne) (defBody sDoublingsToOne) (defScope sDoublingsToOne) .none kV45 dc45 pm45 an45 cd45 ct45
    | 46 => PySem.W.fnOf "_lifted_root" "_lifted_root" (defArgs sLiftedRoot) (defBody sLiftedRoot) (defScope sLiftedRoot) .none kV46 dc46 pm46 an46 cd46 ct46
    | 47 => PySem.W.fnOf "rooted_forms" "rooted_forms" (defArgs sRootedForms) (defBody sRootedForms) (defScope sRootedForms) .none kV47 dc47 pm47 an47 cd47 ct47
    | 48 => PySem.W.fnOf "any_reduced" "any_reduced" (defArgs sAnyReduced) (defBody sAnyReduced) (defScope sAnyReduced) .none kV48 dc48 pm48 an48 cd48 ct48
    | 49 => PySem.W.fnOf "ways_to_reduced" "ways_to_reduced" (defArgs sWaysToReduced) (defBody sWaysToReduced) (defScope sWaysToReduced) .none kV49 dc49 pm49 an49 cd49 ct49
    | 50 => PySem.W.fnOf "change_by_ways" "change_by_ways" (defArgs sChangeByWays) (defBody sChangeByWays) (defScope sChangeByWays) .none kV50 dc50 pm50 an50 cd50 ct50
    | 51 => PySem.W.fnOf "first_points" "first_points" (defArgs sFirstPoints) (defBody sFirstPoints) (defScope sFirstPoints) .none kV51 dc51 pm51 an51 cd51 ct51
    | 52 => PySem.W.fnOf "definite_points" "definite_points" (defArgs sDefinitePoints) (defBody sDefinitePoints) (defScope sDefinitePoints) .none kV52 dc52 pm52 an52 cd52 ct52
    | 53 => PySem.W.fnOf "definite_orbits" "definite_orbits" (defArgs sDefiniteOrbits) (defBody sDefiniteOrbits) (defScope sDefiniteOrbits) .none kV53 dc53 pm53 an53 cd53 ct53
    | 54 => PySem.W.fnOf "is_represented" "is_represented" (defArgs sIsRepresented) (defBody sIsRepresented) (defScope sIsRepresented) .none kV54 dc54 pm54 an54 cd54 ct54
    | 55 => PySem.W.fnOf "_law_cell" "_law_cell" (defArgs sLawCell) (defBody sLawCell) (defScope sLawCell) .none kV55 dc55 pm55 an55 cd55 ct55
    | 56 => PySem.W.fnOf "_law_numbers" "_law_numbers" (defArgs sLawNumbers) (defBody sLawNumbers) (defScope sLawNumbers) .none kV56 dc56 pm56 an56 cd56 ct56
    | 57 => PySem.W.fnOf "_law_state" "_law_state" (defArgs sLawState) (defBody sLawState) (defScope sLawState) .none kV57 dc57 pm57 an57 cd57 ct57
    | 58 => PySem.W.fnOf "_law_next" "_law_next" (defArgs sLawNext) (defBody sLawNext) (defScope sLawNext) .none kV58 dc58 pm58 an58 cd58 ct58
    | 59 => PySem.W.fnOf "_law_root" "_law_root" (defArgs sLawRoot) (defBody sLawRoot) (defScope sLawRoot) .none kV59 dc59 pm59 an59 cd59 ct59
    | 60 => PySem.W.fnOf "_law_mul" "_law_mul" (defArgs sLawMul) (defBody sLawMul) (defScope sLawMul) .none kV60 dc60 pm60 an60 cd60 ct60
    | 61 => PySem.W.fnOf "_law_at" "_law_at" (defArgs sLawAt) (defBody sLawAt) (defScope sLawAt) .none kV61 dc61 pm61 an61 cd61 ct61
    | 62 => PySem.W.fnOf "_law_worth" "_law_worth" (defArgs sLawWorth) (defBody sLawWorth) (defScope sLawWorth) .none kV62 dc62 pm62 an62 cd62 ct62
    | 63 => PySem.W.fnOf "_law_act" "_law_act" (defArgs sLawAct) (defBody sLawAct) (defScope sLawAct) .none kV63 dc63 pm63 an63 cd63 ct63
    | 64 => PySem.W.fnOf "_law_change" "_law_change" (defArgs sLawChange) (defBody sLawChange) (defScope sLawChange) .none kV64 dc64 pm64 an64 cd64 ct64
    | 65 => PySem.W.fnOf "_law_square" "_law_square" (defArgs sLawSquare) (defBody sLawSquare) (defScope sLawSquare) .none kV65 dc65 pm65 an65 cd65 ct65
    | 66 => PySem.W.fnOf "_law_kind" "_law_kind" (defArgs sLawKind) (defBody sLawKind) (defScope sLawKind) .none kV66 dc66 pm66 an66 cd66 ct66
    | 67 => PySem.W.fnOf "_law_form" "_law_form" (defArgs sLawForm) (defBody sLawForm) (defScope sLawForm) .none kV67 dc67 pm67 an67 cd67 ct67
    | 68 => PySem.W.fnOf "_law_search" "_law_search" (defArgs sLawSearch) (defBody sLawSearch) (defScope sLawSearch) .none kV68 dc68 pm68 an68 cd68 ct68
    | _ => PySem.W.fnOf "law" "law" (defArgs sLaw) (defBody sLaw) (defScope sLaw) .none kV69 dc69 pm69 an69 cd69 ct69
  have T : Txt K mg fa fd := {
    F_bezout := F0, B_bezout := b0, G_bezout := PySem.W.mg_of X G a0,
    F_measure := F1, B_measure := b1, G_measure := PySem.W.mg_of X G a1,
    F_floor_root := F2, B_floor_root := b2, G_floor_root := PySem.W.mg_of X G a2,
    F_is_square := F3, B_is_square := b3, G_is_square := PySem.W.mg_of X G a3,
    F_power := F4, B_power := b4, G_power := PySem.W.mg_of X G a4,
    F_power_modulo := F5, B_power_modulo := b5, G_power_modulo := PySem.W.mg_of X G a5,
    F_taken_out := F6, B_taken_out := b6, G_taken_out := PySem.W.mg_of X G a6,
    F_is_prime := F7, B_is_prime := b7, G_is_prime := PySem.W.mg_of X G a7,
    F__behaves_as_prime := F8, B__behaves_as_prime := b8, G__behaves_as_prime := PySem.W.mg_of X G a8,
    F_prime_parts := F9, B_prime_parts := b9, G_prime_parts := PySem.W.mg_of X G a9,
    F__least_measure := F10, B__least_measure := b10, G__least_measure := PySem.W.mg_of X G a10,
    F_square_measures := F11, B_square_measures := b11, G_square_measures := PySem.W.mg_of X G a11,
    F_halved := F12, B_halved := b12, G_halved := PySem.W.mg_of X G a12,
    F_products := F13, B_products := b13, G_products := PySem.W.mg_of X G a13,
    F_discriminant := F14, B_discriminant := b14, G_discriminant := PySem.W.mg_of X G a14,
    F_content := F15, B_content := b15, G_content := PySem.W.mg_of X G a15,
    F_worth := F16, B_worth := b16, G_worth := PySem.W.mg_of X G a16,
    F_act := F17, B_act := b17, G_act := PySem.W.mg_of X G a17,
    F_scaled := F18, B_scaled := b18, G_scaled := PySem.W.mg_of X G a18,
    F_divided := F19, B_divided := b19, G_divided := PySem.W.mg_of X G a19,
    F_kind := F20, B_kind := b20, G_kind := PySem.W.mg_of X G a20,
    F_unit_change := F21, B_unit_change := b21, G_unit_change := PySem.W.mg_of X G a21,
    F_multiply := F22, B_multiply := b22, G_multiply := PySem.W.mg_of X G a22,
    F_determinant := F23, B_determinant := b23, G_determinant := PySem.W.mg_of X G a23,
    F_apply := F24, B_apply := b24, G_apply := PySem.W.mg_of X G a24,
    F_negative := F25, B_negative := b25, G_negative := PySem.W.mg_of X G a25,
    F_inverse := F26, B_inverse := b26, G_inverse := PySem.W.mg_of X G a26,
    F_is_reduced_definite := F27, B_is_reduced_definite := b27, G_is_reduced_definite := PySem.W.mg_of X G a27,
    F_reduce_definite := F28, B_reduce_definite := b28, G_reduce_definite := PySem.W.mg_of X G a28,
    F__step_down := F29, B__step_down := b29, G__step_down := PySem.W.mg_of X G a29,
    F_self_changes := F30, B_self_changes := b30, G_self_changes := PySem.W.mg_of X G a30,
    F_is_reduced_indefinite := F31, B_is_reduced_indefinite := b31, G_is_reduced_indefinite := PySem.W.mg_of X G a31,
    F_reduce_indefinite := F32, B_reduce_indefinite := b32, G_reduce_indefinite := PySem.W.mg_of X G a32,
    F__step_near := F33, B__step_near := b33, G__step_near := PySem.W.mg_of X G a33,
    F_step_of := F34, B_step_of := b34, G_step_of := PySem.W.mg_of X G a34,
    F_cycle := F35, B_cycle := b35, G_cycle := PySem.W.mg_of X G a35,
    F_self_group := F36, B_self_group := b36, G_self_group := PySem.W.mg_of X G a36,
    F_square_roots := F37, B_square_roots := b37, G_square_roots := PySem.W.mg_of X G a37,
    F_is_residue := F38, B_is_residue := b38, G_is_residue := PySem.W.mg_of X G a38,
    F__joined := F39, B__joined := b39, G__joined := PySem.W.mg_of X G a39,
    F__power_roots := F40, B__power_roots := b40, G__power_roots := PySem.W.mg_of X G a40,
    F__unit_roots := F41, B__unit_roots := b41, G__unit_roots := PySem.W.mg_of X G a41,
    F__unit_roots_of_two := F42, B__unit_roots_of_two := b42, G__unit_roots_of_two := PySem.W.mg_of X G a42,
    F__prime_root := F43, B__prime_root := b43, G__prime_root := PySem.W.mg_of X G a43,
    F__least_non_residue := F44, B__least_non_residue := b44, G__least_non_residue := PySem.W.mg_of X G a44,
    F__doublings_to_one := F45, B__doublings_to_one := b45, G__doublings_to_one := PySem.W.mg_of X G a45,
    F__lifted_root := F46, B__lifted_root := b46, G__lifted_root := PySem.W.mg_of X G a46,
    F_rooted_forms := F47, B_rooted_forms := b47, G_rooted_forms := PySem.W.mg_of X G a47,
    F_any_reduced := F48, B_any_reduced := b48, G_any_reduced := PySem.W.mg_of X G a48,
    F_ways_to_reduced := F49, B_ways_to_reduced := b49, G_ways_to_reduced := PySem.W.mg_of X G a49,
    F_change_by_ways := F50, B_change_by_ways := b50, G_change_by_ways := PySem.W.mg_of X G a50,
    F_first_points := F51, B_first_points := b51, G_first_points := PySem.W.mg_of X G a51,
    F_definite_points := F52, B_definite_points := b52, G_definite_points := PySem.W.mg_of X G a52,
    F_definite_orbits := F53, B_definite_orbits := b53, G_definite_orbits := PySem.W.mg_of X G a53,
    F_is_represented := F54, B_is_represented := b54, G_is_represented := PySem.W.mg_of X G a54,
    F__law_cell := F55, B__law_cell := b55, G__law_cell := PySem.W.mg_of X G a55,
    F__law_numbers := F56, B__law_numbers := b56, G__law_numbers := PySem.W.mg_of X G a56,
    F__law_state := F57, B__law_state := b57, G__law_state := PySem.W.mg_of X G a57,
    F__law_next := F58, B__law_next := b58, G__law_next := PySem.W.mg_of X G a58,
    F__law_root := F59, B__law_root := b59, G__law_root := PySem.W.mg_of X G a59,
    F__law_mul := F60, B__law_mul := b60, G__law_mul := PySem.W.mg_of X G a60,
    F__law_at := F61, B__law_at := b61, G__law_at := PySem.W.mg_of X G a61,
    F__law_worth := F62, B__law_worth := b62, G__law_worth := PySem.W.mg_of X G a62,
    F__law_act := F63, B__law_act := b63, G__law_act := PySem.W.mg_of X G a63,
    F__law_change := F64, B__law_change := b64, G__law_change := PySem.W.mg_of X G a64,
    F__law_square := F65, B__law_square := b65, G__law_square := PySem.W.mg_of X G a65,
    F__law_kind := F66, B__law_kind := b66, G__law_kind := PySem.W.mg_of X G a66,
    F__law_form := F67, B__law_form := b67, G__law_form := PySem.W.mg_of X G a67,
    F__law_search := F68, B__law_search := b68, G__law_search := PySem.W.mg_of X G a68,
    F_law := F69, B_law := b69, G_law := PySem.W.mg_of X G a69,
    m_abs := PySem.W.mg_none_of X G z0, m_bool := PySem.W.mg_none_of X G z1, m_int := PySem.W.mg_none_of X G z2, m_isinstance := PySem.W.mg_none_of X G z3, m_len := PySem.W.mg_none_of X G z4, m_list := PySem.W.mg_none_of X G z5, m_max := PySem.W.mg_none_of X G z6, m_range := PySem.W.mg_none_of X G z7, m_sorted := PySem.W.mg_none_of X G z8, m_tuple := PySem.W.mg_none_of X G z9, g_gcd := PySem.W.mg_of X G i0, g_isqrt := PySem.W.mg_of X G i1, g_WITNESSES := PySem.W.mg_of X G w0, S_WITNESSES := fun H => .inr ⟨_, _, _, x0, rfl, rfl, y0, v0⟩, g_UNIT := PySem.W.mg_of X G w1, S_UNIT := fun H => .inr ⟨_, _, _, x1, rfl, rfl, y1, v1⟩, g_UNITS_OF_3 := PySem.W.mg_of X G w2, S_UNITS_OF_3 := ⟨fw2_0, fw2_1, fw2_2, fw2_3, fw2_4, fw2_5, fun H => .inr ⟨_, _, _, x2, rfl, rfl, y2, v2⟩, fun H => .inr ⟨_, _, _, x2_0, rfl, rfl, y2_0, v2_0⟩, fun H => .inr ⟨_, _, _, x2_1, rfl, rfl, y2_1, v2_1⟩, fun H => .inr ⟨_, _, _, x2_2, rfl, rfl, y2_2, v2_2⟩, fun H => .inr ⟨_, _, _, x2_3, rfl, rfl, y2_3, v2_3⟩, fun H => .inr ⟨_, _, _, x2_4, rfl, rfl, y2_4, v2_4⟩, fun H => .inr ⟨_, _, _, x2_5, rfl, rfl, y2_5, v2_5⟩⟩, g_UNITS_OF_4 := PySem.W.mg_of X G w3, S_UNITS_OF_4 := ⟨fw3_0, fw3_1, fw3_2, fw3_3, fun H => .inr ⟨_, _, _, x3, rfl, rfl, y3, v3⟩, fun H => .inr ⟨_, _, _, x3_0, rfl, rfl, y3_0, v3_0⟩, fun H => .inr ⟨_, _, _, x3_1, rfl, rfl, y3_1, v3_1⟩, fun H => .inr ⟨_, _, _, x3_2, rfl, rfl, y3_2, v3_2⟩, fun H => .inr ⟨_, _, _, x3_3, rfl, rfl, y3_3, v3_3⟩⟩, g_OTHER_UNITS := PySem.W.mg_of X G w4, S_OTHER_UNITS := ⟨fw4_0, fw4_1, fun H => .inr ⟨_, _, _, x4, rfl, rfl, y4, v4⟩, fun H => .inr ⟨_, _, _, x4_0, rfl, rfl, y4_0, v4_0⟩, fun H => .inr ⟨_, _, _, x4_1, rfl, rfl, y4_1, v4_1⟩⟩ }
  exact ⟨fd 69, fun s v => .of_eq rfl, fun base _ _ => okLaw T⟩
end Wc
open PySem PySem.W PyProof.Rows
set_option maxHeartbeats 0 in
theorem PySem.Challenge.cw_wholeconic_k22_definite_representations_holds : PySem.Challenge.rw_wholeconic_k22_definite_representations.Holds := by
  w_on; o_law; k_head; (case hw => w_witness2)
  k_fill
  refine L2.walk_of (l := PySem.Challenge.rw_wholeconic_k22_definite_representations) (n := 63) (k := 14) (x := "script") (CX := fun _ => L2.CX0) (sp := fun w => Wc.spLaw _) rfl (by decide) rfl ⟨rfl, by decide, by decide⟩ (fun w h Y => PySem.W.kIn_of Y) ?F (fun _ _ a ns hl _ hS => ⟨a, ns, rfl, hS, hl, fun _ => rfl⟩) (fun _ _ _ _ _ h => h)
  case F =>
    intro w mg fa h KX G hmg
    refine' Wc.all_mk KX G hmg ?a0 ?l0 ?c0 ?k0 ?a1 ?l1 ?c1 ?k1 ?a2 ?l2 ?c2 ?k2 ?a3 ?l3 ?c3 ?k3 ?a4 ?l4 ?c4 ?k4 ?a5 ?l5 ?c5 ?k5 ?a6 ?l6 ?c6 ?k6 ?a7 ?l7 ?c7 ?k7 ?a8 ?l8 ?c8 ?k8 ?a9 ?l9 ?c9 ?k9 ?a10 ?l10 ?c10 ?k10 ?a11 ?l11 ?c11 ?k11 ?a12 ?l12 ?c12 ?k12 ?a13 ?l13 ?c13 ?k13 ?a14 ?l14 ?c14 ?k14 ?a15 ?l15 ?c15 ?k15 ?a16 ?l16 ?c16 ?k16 ?a17 ?l17 ?c17 ?k17 ?a18 ?l18 ?c18 ?k18 ?a19 ?l19 ?c19 ?k19 ?a20 ?l20 ?c20 ?k20 ?a21 ?l21 ?c21 ?k21 ?a22 ?l22 ?c22 ?k22 ?a23 ?l23 ?c23 ?k23 ?a24 ?l24 ?c24 ?k24 ?a25 ?l25 ?c25 ?k25 ?a26 ?l26 ?c26 ?k26 ?a27 ?l27 ?c27 ?k27 ?a28 ?l28 ?c28 ?k28 ?a29 ?l29 ?c29 ?k29 ?a30 ?l30 ?c30 ?k30 ?a31 ?l31 ?c31 ?k31 ?a32 ?l32 ?c32 ?k32 ?a33 ?l33 ?c33 ?k33 ?a34 ?l34 ?c34 ?k34 ?a35 ?l35 ?c35 ?k35 ?a36 ?l36 ?c36 ?k36 ?a37 ?l37 ?c37 ?k37 ?a38 ?l38 ?c38 ?k38 ?a39 ?l39 ?c39 ?k39 ?a40 ?l40 ?c40 ?k40 ?a41 ?l41 ?c41 ?k41 ?a42 ?l42 ?c42 ?k42 ?a43 ?l43 ?c43 ?k43 ?a44 ?l44 ?c44 ?k44 ?a45 ?l45 ?c45 ?k45 ?a46 ?l46 ?c46 ?k46 ?a47 ?l47 ?c47 ?k47 ?a48 ?l48 ?c48 ?k48 ?a49 ?l49 ?c49 ?k49 ?a50 ?l50 ?c50 ?k50 ?a51 ?l51 ?c51 ?k51 ?a52 ?l52 ?c52 ?k52 ?a53 ?l53 ?c53 ?k53 ?a54 ?l54 ?c54 ?k54 ?a55 ?l55 ?c55 ?k55 ?a56 ?l56 ?c56 ?k56 ?a57 ?l57 ?c57 ?k57 ?a58 ?l58 ?c58 ?k58 ?a59 ?l59 ?c59 ?k59 ?a60 ?l60 ?c60 ?k60 ?a61 ?l61 ?c61 ?k61 ?a62 ?l62 ?c62 ?k62 ?a63 ?l63 ?c63 ?k63 ?a64 ?l64 ?c64 ?k64 ?a65 ?l65 ?c65 ?k65 ?a66 ?l66 ?c66 ?k66 ?a67 ?l67 ?c67 ?k67 ?a68 ?l68 ?c68 ?k68 ?a69 ?l69 ?c69 ?k69 ?z0 ?z1 ?z2 ?z3 ?z4 ?z5 ?z6 ?z7 ?z8 ?z9 ?i0 ?i1 ?w0 ?x0 ?y0 ?v0 ?w1 ?x1 ?y1 ?v1 ?w2 ?x2 ?y2 ?v2 ?x2_0 ?y2_0 ?v2_0 ?x2_1 ?y2_1 ?v2_1 ?x2_2 ?y2_2 ?v2_2 ?x2_3 ?y2_3 ?v2_3 ?x2_4 ?y2_4 ?v2_4 ?x2_5 ?y2_5 ?v2_5 ?w3 ?x3 ?y3 ?v3 ?x3_0 ?y3_0 ?v3_0 ?x3_1 ?y3_1 ?v3_1 ?x3_2 ?y3_2 ?v3_2 ?x3_3 ?y3_3 ?v3_3 ?w4 ?x4 ?y4 ?v4 ?x4_0 ?y4_0 ?v4_0 ?x4_1 ?y4_1 ?v4_1
    (case a0 => k_is); (case l0 => k_is); (case c0 => k_is); (case k0 => k_is); (case a1 => k_is); (case l1 => k_is); (case c1 => k_is); (case k1 => k_is); (case a2 => k_is); (case l2 => k_is); (case c2 => k_is); (case k2 => k_is); (case a3 => k_is); (case l3 => k_is); (case c3 => k_is); (case k3 => k_is); (case a4 => k_is); (case l4 => k_is); (case c4 => k_is); (case k4 => k_is); (case a5 => k_is); (case l5 => k_is); (case c5 => k_is); (case k5 => k_is); (case a6 => k_is); (case l6 => k_is); (case c6 => k_is); (case k6 => k_is); (case a7 => k_is); (case l7 => k_is); (case c7 => k_is); (case k7 => k_is); (case a8 => k_is); (case l8 => k_is); (case c8 => k_is); (case k8 => k_is); (case a9 => k_is); (case l9 => k_is); (case c9 => k_is); (case k9 => k_is); (case a10 => k_is); (case l10 => k_is); (case c10 => k_is); (case k10 => k_is); (case a11 => k_is); (case l11 => k_is); (case c11 => k_is); (case k11 => k_is); (case a12 => k_is); (case l12 => k_is); (case c12 => k_is); (case k12 => k_is); (case a13 => k_is); (case l13 => k_is); (case c13 => k_is); (case k13 => k_is); (case a14 => k_is); (case l14 => k_is); (case c14 => k_is); (case k14 => k_is); (case a15 => k_is); (case l15 => k_is); (case c15 => k_is); (case k15 => k_is); (case a16 => k_is); (case l16 => k_is); (case c16 => k_is); (case k16 => k_is); (case a17 => k_is); (case l17 => k_is); (case c17 => k_is); (case k17 => k_is); (case a18 => k_is); (case l18 => k_is); (case c18 => k_is); (case k18 => k_is); (case a19 => k_is); (case l19 => k_is); (case c19 => k_is); (case k19 => k_is); (case a20 => k_is); (case l20 => k_is); (case c20 => k_is); (case k20 => k_is); (case a21 => k_is); (case l21 => k_is); (case c21 => k_is); (case k21 => k_is); (case a22 => k_is); (case l22 => k_is); (case c22 => k_is); (case k22 => k_is); (case a23 => k_is); (case l23 => k_is); (case c23 => k_is); (case k23 => k_is); (case a24 => k_is); (case l24 => k_is); (case c24 => k_is); (case k24 => k_is); (case a25 => k_is); (case l25 => k_is); (case c25 => k_is); (case k25 => k_is); (case a26 => k_is); (case l26 => k_is); (case c26 => k_is); (case k26 => k_is); (case a27 => k_is); (case l27 => k_is); (case c27 => k_is); (case k27 => k_is); (case a28 => k_is); (case l28 => k_is); (case c28 => k_is); (case k28 => k_is); (case a29 => k_is); (case l29 => k_is); (case c29 => k_is); (case k29 => k_is); (case a30 => k_is); (case l30 => k_is); (case c30 => k_is); (case k30 => k_is); (case a31 => k_is); (case l31 => k_is); (case c31 => k_is); (case k31 => k_is); (case a32 => k_is); (case l32 => k_is); (case c32 => k_is); (case k32 => k_is); (case a33 => k_is); (case l33 => k_is); (case c33 => k_is); (case k33 => k_is); (case a34 => k_is); (case l34 => k_is); (case c34 => k_is); (case k34 => k_is); (case a35 => k_is); (case l35 => k_is); (case c35 => k_is); (case k35 => k_is); (case a36 => k_is); (case l36 => k_is); (case c36 => k_is); (case k36 => k_is); (case a37 => k_is); (case l37 => k_is); (case c37 => k_is); (case k37 => k_is); (case a38 => k_is); (case l38 => k_is); (case c38 => k_is); (case k38 => k_is); (case a39 => k_is); (case l39 => k_is); (case c39 => k_is); (case k39 => k_is); (case a40 => k_is); (case l40 => k_is); (case c40 => k_is); (case k40 => k_is); (case a41 => k_is); (case l41 => k_is); (case c41 => k_is); (case k41 => k_is); (case a42 => k_is); (case l42 => k_is); (case c42 => k_is); (case k42 => k_is); (case a43 => k_is); (case l43 => k_is); (case c43 => k_is); (case k43 => k_is); (case a44 => k_is); (case l44 => k_is); (case c44 => k_is); (case k44 => k_is); (case a45 => k_is); (case l45 => k_is); (case c45 => k_is); (case k45 => k_is); (case a46 => k_is); (case l46 => k_is); (case c46 => k_is); (case k46 => k_is); (case a47 => k_is); (case l47 => k_is); (case c47 => k_is); (case k47 => k_is); (case a48 => k_is); (case l48 => k_is); (case c48 => k_is); (case k48 => k_is); (case a49 => k_is); (case l49 => k_is); (case c49 => k_is); (case k49 => k_is); (case a50 => k_is); (case l50 => k_is); (case c50 => k_is); (case k50 => k_is); (case a51 => k_is); (case l51 => k_is); (case c51 => k_is); (case k51 => k_is); (case a52 => k_is); (case l52 => k_is); (case c52 => k_is); (case k52 => k_is); (case a53 => k_is); (case l53 => k_is); (case c53 => k_is); (case k53 => k_is); (case a54 => k_is); (case l54 => k_is); (case c54 => k_is); (case k54 => k_is); (case a55 => k_is); (case l55 => k_is); (case c55 => k_is); (case k55 => k_is); (case a56 => k_is); (case l56 => k_is); (case c56 => k_is); (case k56 => k_is); (case a57 => k_is); (case l57 => k_is); (case c57 => k_is); (case k57 => k_is); (case a58 => k_is); (case l58 => k_is); (case c58 => k_is); (case k58 => k_is); (case a59 => k_is); (case l59 => k_is); (case c59 => k_is); (case k59 => k_is); (case a60 => k_is); (case l60 => k_is); (case c60 => k_is); (case k60 => k_is); (case a61 => k_is); (case l61 => k_is); (case c61 => k_is); (case k61 => k_is); (case a62 => k_is); (case l62 => k_is); (case c62 => k_is); (case k62 => k_is); (case a63 => k_is); (case l63 => k_is); (case c63 => k_is); (case k63 => k_is); (case a64 => k_is); (case l64 => k_is); (case c64 => k_is); (case k64 => k_is); (case a65 => k_is); (case l65 => k_is); (case c65 => k_is); (case k65 => k_is); (case a66 => k_is); (case l66 => k_is); (case c66 => k_is); (case k66 => k_is); (case a67 => k_is); (case l67 => k_is); (case c67 => k_is); (case k67 => k_is); (case a68 => k_is); (case l68 => k_is); (case c68 => k_is); (case k68 => k_is); (case a69 => k_is); (case l69 => k_is); (case c69 => k_is); (case k69 => k_is); (case z0 => k_is); (case z1 => k_is); (case z2 => k_is); (case z3 => k_is); (case z4 => k_is); (case z5 => k_is); (case z6 => k_is); (case z7 => k_is); (case z8 => k_is); (case z9 => k_is); (case i0 => k_is); (case i1 => k_is); (case w0 => k_is); (case x0 => k_is); (case y0 => exact (by decide)); (case v0 => (repeat (first | exact .nil | refine .cons ⟨_, rfl⟩ ?_ | refine .cons rfl ?_))); (case w1 => k_is); (case x1 => k_is); (case y1 => exact (by decide)); (case v1 => (repeat (first | exact .nil | refine .cons ⟨_, rfl⟩ ?_ | refine .cons rfl ?_))); (case w2 => k_is); (case x2 => k_is); (case y2 => exact (by decide)); (case v2 => (repeat (first | exact .nil | refine .cons ⟨_, rfl⟩ ?_ | refine .cons rfl ?_))); (case x2_0 => k_is); (case y2_0 => exact (by decide)); (case v2_0 => (repeat (first | exact .nil | refine .cons ⟨_, rfl⟩ ?_))); (case x2_1 => k_is); (case y2_1 => exact (by decide)); (case v2_1 => (repeat (first | exact .nil | refine .cons ⟨_, rfl⟩ ?_))); (case x2_2 => k_is); (case y2_2 => exact (by decide)); (case v2_2 => (repeat (first | exact .nil | refine .cons ⟨_, rfl⟩ ?_))); (case x2_3 => k_is); (case y2_3 => exact (by decide)); (case v2_3 => (repeat (first | exact .nil | refine .cons ⟨_, rfl⟩ ?_))); (case x2_4 => k_is); (case y2_4 => exact (by decide)); (case v2_4 => (repeat (first | exact .nil | refine .cons ⟨_, rfl⟩ ?_))); (case x2_5 => k_is); (case y2_5 => exact (by decide)); (case v2_5 => (repeat (first | exact .nil | refine .cons ⟨_, rfl⟩ ?_))); (case w3 => k_is); (case x3 => k_is); (case y3 => exact (by decide)); (case v3 => (repeat (first | exact .nil | refine .cons ⟨_, rfl⟩ ?_ | refine .cons rfl ?_))); (case x3_0 => k_is); (case y3_0 => exact (by decide)); (case v3_0 => (repeat (first | exact .nil | refine .cons ⟨_, rfl⟩ ?_))); (case x3_1 => k_is); (case y3_1 => exact (by decide)); (case v3_1 => (repeat (first | exact .nil | refine .cons ⟨_, rfl⟩ ?_))); (case x3_2 => k_is); (case y3_2 => exact (by decide)); (case v3_2 => (repeat (first | exact .nil | refine .cons ⟨_, rfl⟩ ?_))); (case x3_3 => k_is); (case y3_3 => exact (by decide)); (case v3_3 => (repeat (first | exact .nil | refine .cons ⟨_, rfl⟩ ?_))); (case w4 => k_is); (case x4 => k_is); (case y4 => exact (by decide)); (case v4 => (repeat (first | exact .nil | refine .cons ⟨_, rfl⟩ ?_ | refine .cons rfl ?_))); (case x4_0 => k_is); (case y4_0 => exact (by decide)); (case v4_0 => (repeat (first | exact .nil | refine .cons ⟨_, rfl⟩ ?_))); (case x4_1 => k_is); (case y4_1 => exact (by decide)); (case v4_1 => (repeat (first | exact .nil | refine .cons ⟨_, rfl⟩ ?_)))
