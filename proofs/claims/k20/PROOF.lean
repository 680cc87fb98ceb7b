import PyProof.Rows.All
import Wide.All
import OpenK.AllK
import Wide.FinOn
import HandS.ForMost
import HandS.Wide
import HandS.Gcd
import HandS.Style
import HandS.IsInst
import HandS.Codes
import HandS.NoneIn
import HandS.Deep
import HandS.SortInts
import HandS.SortRule
import Flt.RightSqrt
import HandS.WideBits
import HandS.Conv
import HandS.Flow
import PySem.Challenge.RW_wholeconic_k20_genera
set_option Elab.async false
set_option linter.all false
set_option maxRecDepth 100000
set_option maxHeartbeats 4000000
namespace Wc
open PySem PySem.Spec PyProof.Rows L2
/-! ### the text -/
def topS (i : Nat) : Stmt := PySem.Challenge.pw_wholeconic_k20_genera.main.body.getD i (.Pass ⟨0, 0, 0, 0⟩)
abbrev sPowerModulo : Stmt := topS 2
theorem scPowerModulo : FnScope ["base", "many", "modulus", "result", "square"] ["base", "many", "modulus"] (defScope sPowerModulo) := ⟨rfl, rfl, rfl, by decide +kernel, rfl, by decide +kernel, by decide +kernel⟩
abbrev sTakenOut : Stmt := topS 3
theorem scTakenOut : FnScope ["n", "p", "many"] ["n", "p"] (defScope sTakenOut) := ⟨rfl, rfl, rfl, by decide +kernel, rfl, by decide +kernel, by decide +kernel⟩
abbrev sIsPrime : Stmt := topS 4
theorem scIsPrime : FnScope ["n", "p", "many", "odd", "base"] ["n"] (defScope sIsPrime) := ⟨rfl, rfl, rfl, by decide +kernel, rfl, by decide +kernel, by decide +kernel⟩
abbrev sBehavesAsPrime : Stmt := topS 5
theorem scBehavesAsPrime : FnScope ["n", "base", "many", "odd", "number", "_"] ["n", "base", "many", "odd"] (defScope sBehavesAsPrime) := ⟨rfl, rfl, rfl, by decide +kernel, rfl, by decide +kernel, by decide +kernel⟩
abbrev sPrimeParts : Stmt := topS 6
theorem scPrimeParts : FnScope ["n", "parts", "rest", "p", "many"] ["n"] (defScope sPrimeParts) := ⟨rfl, rfl, rfl, by decide +kernel, rfl, by decide +kernel, by decide +kernel⟩
abbrev sLeastMeasure : Stmt := topS 7
theorem scLeastMeasure : FnScope ["n", "start", "number"] ["n", "start"] (defScope sLeastMeasure) := ⟨rfl, rfl, rfl, by decide +kernel, rfl, by decide +kernel, by decide +kernel⟩
abbrev sDiscriminant : Stmt := topS 9
theorem scDiscriminant : FnScope ["form", "a", "b", "c"] ["form"] (defScope sDiscriminant) := ⟨rfl, rfl, rfl, by decide +kernel, rfl, by decide +kernel, by decide +kernel⟩
abbrev sWorth : Stmt := topS 10
theorem scWorth : FnScope ["form", "point", "a", "b", "c", "x", "y"] ["form", "point"] (defScope sWorth) := ⟨rfl, rfl, rfl, by decide +kernel, rfl, by decide +kernel, by decide +kernel⟩
abbrev sPointApart : Stmt := topS 11
theorem scPointApart : FnScope ["form", "number", "a", "_", "c", "x", "y", "p"] ["form", "number"] (defScope sPointApart) := ⟨rfl, rfl, rfl, by decide +kernel, rfl, by decide +kernel, by decide +kernel⟩
abbrev sIsResidue : Stmt := topS 13
theorem scIsResidue : FnScope ["d", "p"] ["d", "p"] (defScope sIsResidue) := ⟨rfl, rfl, rfl, by decide +kernel, rfl, by decide +kernel, by decide +kernel⟩
abbrev sGenus : Stmt := topS 15
theorem scGenus : FnScope ["form", "d", "n", "signs", "p", "_"] ["form"] (defScope sGenus) := ⟨rfl, rfl, rfl, by decide +kernel, rfl, by decide +kernel, by decide +kernel⟩
abbrev sSignsAt2 : Stmt := topS 16
theorem scSignsAt2 : FnScope ["rest", "n", "fourth", "eighth"] ["rest", "n"] (defScope sSignsAt2) := ⟨rfl, rfl, rfl, by decide +kernel, rfl, by decide +kernel, by decide +kernel⟩
abbrev sLawCell : Stmt := topS 18
theorem scLawCell : FnScope ["script", "k"] ["script", "k"] (defScope sLawCell) := ⟨rfl, rfl, rfl, by decide +kernel, rfl, by decide +kernel, by decide +kernel⟩
abbrev sLawNumbers : Stmt := topS 19
theorem scLawNumbers : FnScope ["cell", "many", "rest", "span", "numbers", "k", "mixed"] ["cell", "many"] (defScope sLawNumbers) := ⟨rfl, rfl, rfl, by decide +kernel, rfl, by decide +kernel, by decide +kernel⟩
abbrev sLawState : Stmt := topS 20
theorem scLawState : FnScope ["script", "numbers", "k"] ["script"] (defScope sLawState) := ⟨rfl, rfl, rfl, by decide +kernel, rfl, by decide +kernel, by decide +kernel⟩
abbrev sLawNext : Stmt := topS 21
theorem scLawNext : FnScope ["state", "many", "number"] ["state", "many"] (defScope sLawNext) := ⟨rfl, rfl, rfl, by decide +kernel, rfl, by decide +kernel, by decide +kernel⟩
abbrev sLawRoot : Stmt := topS 23
theorem scLawRoot : FnScope ["n", "low", "high", "k", "middle"] ["n"] (defScope sLawRoot) := ⟨rfl, rfl, rfl, by decide +kernel, rfl, by decide +kernel, by decide +kernel⟩
abbrev sLawMeasure : Stmt := topS 24
theorem scLawMeasure : FnScope ["a", "b", "k"] ["a", "b"] (defScope sLawMeasure) := ⟨rfl, rfl, rfl, by decide +kernel, rfl, by decide +kernel, by decide +kernel⟩
abbrev sLawMul : Stmt := topS 25
theorem scLawMul : FnScope ["m", "n", "top"] ["m", "n"] (defScope sLawMul) := ⟨rfl, rfl, rfl, by decide +kernel, rfl, by decide +kernel, by decide +kernel⟩
abbrev sLawWorth : Stmt := topS 27
theorem scLawWorth : FnScope ["form", "x", "y"] ["form", "x", "y"] (defScope sLawWorth) := ⟨rfl, rfl, rfl, by decide +kernel, rfl, by decide +kernel, by decide +kernel⟩
abbrev sLawAct : Stmt := topS 28
theorem scLawAct : FnScope ["form", "m", "first", "last"] ["form", "m"] (defScope sLawAct) := ⟨rfl, rfl, rfl, by decide +kernel, rfl, by decide +kernel, by decide +kernel⟩
abbrev sLawChange : Stmt := topS 29
theorem scLawChange : FnScope ["state", "many", "m", "k", "t"] ["state", "many"] (defScope sLawChange) := ⟨rfl, rfl, rfl, by decide +kernel, rfl, by decide +kernel, by decide +kernel⟩
abbrev sLawSquare : Stmt := topS 30
theorem scLawSquare : FnScope ["n"] ["n"] (defScope sLawSquare) := ⟨rfl, rfl, rfl, by decide +kernel, rfl, by decide +kernel, by decide +kernel⟩
abbrev sLawKind : Stmt := topS 31
theorem scLawKind : FnScope ["form", "d"] ["form"] (defScope sLawKind) := ⟨rfl, rfl, rfl, by decide +kernel, rfl, by decide +kernel, by decide +kernel⟩
abbrev sLawSplit : Stmt := topS 32
theorem scLawSplit : FnScope ["state", "p", "q", "r", "s", "g", "k"] ["state"] (defScope sLawSplit) := ⟨rfl, rfl, rfl, by decide +kernel, rfl, by decide +kernel, by decide +kernel⟩
abbrev sLawFlat : Stmt := topS 33
theorem scLawFlat : FnScope ["state", "p", "q", "g"] ["state"] (defScope sLawFlat) := ⟨rfl, rfl, rfl, by decide +kernel, rfl, by decide +kernel, by decide +kernel⟩
abbrev sLawForm : Stmt := topS 34
theorem scLawForm : FnScope ["state", "sort", "k", "a", "c", "form"] ["state", "sort"] (defScope sLawForm) := ⟨rfl, rfl, rfl, by decide +kernel, rfl, by decide +kernel, by decide +kernel⟩
abbrev sLawPrimitive : Stmt := topS 35
theorem scLawPrimitive : FnScope ["state", "name", "form", "g", "part"] ["state", "name"] (defScope sLawPrimitive) := ⟨rfl, rfl, rfl, by decide +kernel, rfl, by decide +kernel, by decide +kernel⟩
abbrev sLawSigns : Stmt := topS 36
theorem scLawSigns : FnScope ["d", "n", "found", "p", "fourth", "eighth", "rows", "q", "x"] ["d", "n"] (defScope sLawSigns) := ⟨rfl, rfl, rfl, by decide +kernel, rfl, by decide +kernel, by decide +kernel⟩
abbrev sLaw : Stmt := topS 37
theorem scLaw : FnScope ["script", "state", "form", "d", "told", "k", "n", "sign"] ["script"] (defScope sLaw) := ⟨rfl, rfl, rfl, by decide +kernel, rfl, by decide +kernel, by decide +kernel⟩
structure Txt (K : PySem.W.Frag) (mg : Str → Option Value) (fa : Nat → Addr) (fd : Nat → FuncData) : Prop where
  F_power_modulo : Fun K "power_modulo" "power_modulo" sPowerModulo (fa 0) (fd 0)
  B_power_modulo : Binds K (fd 0) ["base", "many", "modulus"] []
  G_power_modulo : mg "power_modulo" = some (.ref (fa 0))
  F_taken_out : Fun K "taken_out" "taken_out" sTakenOut (fa 1) (fd 1)
  B_taken_out : Binds K (fd 1) ["n", "p"] []
  G_taken_out : mg "taken_out" = some (.ref (fa 1))
  F_is_prime : Fun K "is_prime" "is_prime" sIsPrime (fa 2) (fd 2)
  B_is_prime : Binds K (fd 2) ["n"] []
  G_is_prime : mg "is_prime" = some (.ref (fa 2))
  F__behaves_as_prime : Fun K "_behaves_as_prime" "_behaves_as_prime" sBehavesAsPrime (fa 3) (fd 3)
  B__behaves_as_prime : Binds K (fd 3) ["n", "base", "many", "odd"] []
  G__behaves_as_prime : mg "_behaves_as_prime" = some (.ref (fa 3))
  F_prime_parts : Fun K "prime_parts" "prime_parts" sPrimeParts (fa 4) (fd 4)
  B_prime_parts : Binds K (fd 4) ["n"] []
  G_prime_parts : mg "prime_parts" = some (.ref (fa 4))
  F__least_measure : Fun K "_least_measure" "_least_measure" sLeastMeasure (fa 5) (fd 5)
  B__least_measure : Binds K (fd 5) ["n", "start"] []
  G__least_measure : mg "_least_measure" = some (.ref (fa 5))
  F_discriminant : Fun K "discriminant" "discriminant" sDiscriminant (fa 6) (fd 6)
  B_discriminant : Binds K (fd 6) ["form"] []
  G_discriminant : mg "discriminant" = some (.ref (fa 6))
  F_worth : Fun K "worth" "worth" sWorth (fa 7) (fd 7)
  B_worth : Binds K (fd 7) ["form", "point"] []
  G_worth : mg "worth" = some (.ref (fa 7))
  F_point_apart : Fun K "point_apart" "point_apart" sPointApart (fa 8) (fd 8)
  B_point_apart : Binds K (fd 8) ["form", "number"] []
  G_point_apart : mg "point_apart" = some (.ref (fa 8))
  F_is_residue : Fun K "is_residue" "is_residue" sIsResidue (fa 9) (fd 9)
  B_is_residue : Binds K (fd 9) ["d", "p"] []
  G_is_residue : mg "is_residue" = some (.ref (fa 9))
  F_genus : Fun K "genus" "genus" sGenus (fa 10) (fd 10)
  B_genus : Binds K (fd 10) ["form"] []
  G_genus : mg "genus" = some (.ref (fa 10))
  F__signs_at_2 : Fun K "_signs_at_2" "_signs_at_2" sSignsAt2 (fa 11) (fd 11)
  B__signs_at_2 : Binds K (fd 11) ["rest", "n"] []
  G__signs_at_2 : mg "_signs_at_2" = some (.ref (fa 11))
  F__law_cell : Fun K "_law_cell" "_law_cell" sLawCell (fa 12) (fd 12)
  B__law_cell : Binds K (fd 12) ["script", "k"] []
  G__law_cell : mg "_law_cell" = some (.ref (fa 12))
  F__law_numbers : Fun K "_law_numbers" "_law_numbers" sLawNumbers (fa 13) (fd 13)
  B__law_numbers : Binds K (fd 13) ["cell", "many"] []
  G__law_numbers : mg "_law_numbers" = some (.ref (fa 13))
  F__law_state : Fun K "_law_state" "_law_state" sLawState (fa 14) (fd 14)
  B__law_state : Binds K (fd 14) ["script"] []
  G__law_state : mg "_law_state" = some (.ref (fa 14))
  F__law_next : Fun K "_law_next" "_law_next" sLawNext (fa 15) (fd 15)
  B__law_next : Binds K (fd 15) ["state", "many"] []
  G__law_next : mg "_law_next" = some (.ref (fa 15))
  F__law_root : Fun K "_law_root" "_law_root" sLawRoot (fa 16) (fd 16)
  B__law_root : Binds K (fd 16) ["n"] []
  G__law_root : mg "_law_root" = some (.ref (fa 16))
  F__law_measure : Fun K "_law_measure" "_law_measure" sLawMeasure (fa 17) (fd 17)
  B__law_measure : Binds K (fd 17) ["a", "b"] []
  G__law_measure : mg "_law_measure" = some (.ref (fa 17))
  F__law_mul : Fun K "_law_mul" "_law_mul" sLawMul (fa 18) (fd 18)
  B__law_mul : Binds K (fd 18) ["m", "n"] []
  G__law_mul : mg "_law_mul" = some (.ref (fa 18))
  F__law_worth : Fun K "_law_worth" "_law_worth" sLawWorth (fa 19) (fd 19)
  B__law_worth : Binds K (fd 19) ["form", "x", "y"] []
  G__law_worth : mg "_law_worth" = some (.ref (fa 19))
  F__law_act : Fun K "_law_act" "_law_act" sLawAct (fa 20) (fd 20)
  B__law_act : Binds K (fd 20) ["form", "m"] []
  G__law_act : mg "_law_act" = some (.ref (fa 20))
  F__law_change : Fun K "_law_change" "_law_change" sLawChange (fa 21) (fd 21)
  B__law_change : Binds K (fd 21) ["state", "many"] []
  G__law_change : mg "_law_change" = some (.ref (fa 21))
  F__law_square : Fun K "_law_square" "_law_square" sLawSquare (fa 22) (fd 22)
  B__law_square : Binds K (fd 22) ["n"] []
  G__law_square : mg "_law_square" = some (.ref (fa 22))
  F__law_kind : Fun K "_law_kind" "_law_kind" sLawKind (fa 23) (fd 23)
  B__law_kind : Binds K (fd 23) ["form"] []
  G__law_kind : mg "_law_kind" = some (.ref (fa 23))
  F__law_split : Fun K "_law_split" "_law_split" sLawSplit (fa 24) (fd 24)
  B__law_split : Binds K (fd 24) ["state"] []
  G__law_split : mg "_law_split" = some (.ref (fa 24))
  F__law_flat : Fun K "_law_flat" "_law_flat" sLawFlat (fa 25) (fd 25)
  B__law_flat : Binds K (fd 25) ["state"] []
  G__law_flat : mg "_law_flat" = some (.ref (fa 25))
  F__law_form : Fun K "_law_form" "_law_form" sLawForm (fa 26) (fd 26)
  B__law_form : Binds K (fd 26) ["state", "sort"] []
  G__law_form : mg "_law_form" = some (.ref (fa 26))
  F__law_primitive : Fun K "_law_primitive" "_law_primitive" sLawPrimitive (fa 27) (fd 27)
  B__law_primitive : Binds K (fd 27) ["state", "name"] []
  G__law_primitive : mg "_law_primitive" = some (.ref (fa 27))
  F__law_signs : Fun K "_law_signs" "_law_signs" sLawSigns (fa 28) (fd 28)
  B__law_signs : Binds K (fd 28) ["d", "n"] []
  G__law_signs : mg "_law_signs" = some (.ref (fa 28))
  F_law : Fun K "law" "law" sLaw (fa 29) (fd 29)
  B_law : Binds K (fd 29) ["script"] []
  G_law : mg "law" = some (.ref (fa 29))
  g_WITNESSES : mg "WITNESSES" = some (.ref (fa 30))
  S_WITNESSES : ∀ H, SqT K H (fa 30) [.int 2, .int 3, .int 5, .int 7, .int 11, .int 13, .int 17, .int 19, .int 23, .int 29, .int 31, .int 37]
  m_abs : mg "abs" = none
  m_bool : mg "bool" = none
  m_int : mg "int" = none
  m_isinstance : mg "isinstance" = none
  m_len : mg "len" = none
  m_max : mg "max" = none
  m_range : mg "range" = none
  m_tuple : mg "tuple" = none

/-! ### heaps, draws -/
theorem same_upd {H : Hp} {p : Addr} {o : HO} (h : H p = none) : Same H (upd H p o) := fun b x e => by
  rw [upd_ne (ne_of_none e h)]
  exact e
theorem same_mut {H0 H : Hp} {p : Addr} {o : HO} (s : Same H0 H) (h : H0 p = none) : Same H0 (upd H p o) := fun b x e => by
  rw [upd_ne (ne_of_none e h)]
  exact s _ _ e
theorem same_off {H H' : Hp} {p : Addr} {o : HO} {q : Addr} (f : ∀ b, b ≠ p → H' b = H b) (n : q ≠ p) (h : H q = some o) : H' q = some o := by
  rw [f q n]
  exact h
/-- the state of the draws: the list at p, its numbers at a, at most N draws so far -/
def Dw (H : Hp) (p a : Addr) (N : Nat) : Prop := ∃ (m : Nat) (ns : List Int), m ≤ N ∧ a ≠ p ∧ H p = some (.lst [.ref a, .int (m : Int)]) ∧ H a = some (.lst (ns.map V.int)) ∧ ns.length = 120 ∧ ∀ n ∈ ns, 0 ≤ n ∧ n < 1000
theorem Dw.same {H H' : Hp} {p a : Addr} {N : Nat} (s : Same H H') (d : Dw H p a N) : Dw H' p a N := by
  obtain ⟨m, ns, h1, h2, h3, h4, h5⟩ := d
  exact ⟨m, ns, h1, h2, s _ _ h3, s _ _ h4, h5⟩
theorem Dw.mono {H : Hp} {p a : Addr} {N M : Nat} (d : Dw H p a N) (h : N ≤ M) : Dw H p a M := by
  obtain ⟨m, ns, h1, h2⟩ := d
  exact ⟨m, ns, Nat.le_trans h1 h, h2⟩
theorem Dw.new {H : Hp} {p a q : Addr} {o : HO} {N : Nat} (d : Dw H p a N) (h : H q = none) : Dw (upd H q o) p a N := d.same (same_upd h)
theorem Dw.ne {H : Hp} {p a q : Addr} {N : Nat} (d : Dw H p a N) (h : H q = none) : q ≠ p ∧ q ≠ a := by
  obtain ⟨m, ns, h1, h2, h3, h4, h5⟩ := d
  exact ⟨(ne_of_none h3 h).symm, (ne_of_none h4 h).symm⟩
theorem Dw.mut {H : Hp} {p a q : Addr} {o : HO} {N : Nat} (d : Dw H p a N) (hp : q ≠ p) (ha : q ≠ a) : Dw (upd H q o) p a N := by
  obtain ⟨m, ns, h1, h2, h3, h4, h5⟩ := d
  exact ⟨m, ns, h1, h2, by rw [upd_ne hp.symm]; exact h3, by rw [upd_ne ha.symm]; exact h4, h5⟩
theorem at_mem {α : Type} {xs : List α} {r : Int} (h0 : 0 ≤ r) (h1 : r < xs.length) : ∃ v, v ∈ xs ∧ atI xs r = some v := by
  obtain ⟨j, rfl⟩ := Int.eq_ofNat_of_zero_le h0
  have hj : j < xs.length := by omega
  exact ⟨xs[j], List.getElem_mem hj, atI_nat (List.getElem?_eq_getElem hj)⟩
theorem at_int {ns : List Int} {r : Int} (h0 : 0 ≤ r) (h1 : r < ns.length) : ∃ n ∈ ns, atI (ns.map V.int) r = some (.int n) := by
  obtain ⟨v, hv, e⟩ := at_mem (xs := ns.map V.int) h0 (by rw [List.length_map]; exact h1)
  obtain ⟨n, hn, rfl⟩ := List.mem_map.mp hv
  exact ⟨n, hn, e⟩
theorem pow_ok {i j : Int} (h : 0 ≤ j ∧ j ≤ 1000000 ∧ i.natAbs < 2 ^ 64) : CPow i j := h
theorem wayF {c A B : Prop} [Decidable c] (h : ¬ c) (b : B) : if decide c = true then A else B := by
  rw [if_neg (fun z => h (of_decide_eq_true z))]
  exact b
theorem wayT {c A B : Prop} [Decidable c] (h : c) (a : A) : if decide c = true then A else B := by
  rw [if_pos (decide_eq_true h)]
  exact a
theorem wayNF {c A B : Prop} [Decidable c] (h : c) (b : B) : if (!decide c) = true then A else B := by
  rw [decide_eq_true h]
  exact iteF b
theorem wayNT {c A B : Prop} [Decidable c] (h : ¬ c) (a : A) : if (!decide c) = true then A else B := by
  rw [decide_eq_false h]
  exact iteT a
theorem way2 {c A B : Prop} [Decidable c] (h1 : c → A) (h2 : ¬ c → B) : if decide c = true then A else B := by
  by_cases h : c
  · exact wayT h (h1 h)
  · exact wayF h (h2 h)
theorem wayN2 {c A B : Prop} [Decidable c] (h1 : ¬ c → A) (h2 : c → B) : if (!decide c) = true then A else B := by
  by_cases h : c
  · exact wayNF h (h2 h)
  · exact wayNT h (h1 h)
theorem abs_int (i : Int) : (if i < 0 then -i else i) = (i.natAbs : Int) := by
  split <;> omega
theorem small200 {n : Nat} (h : n ≤ 1000) : n ≤ sizeLine := Nat.le_of_lt (small1000 h)
/-! ### data: == of lists and tuples -/
theorem dp_ints {K : PySem.W.Frag} {H : Hp} : ∀ ns : List Int, DpAll K H (ns.map V.int) (ns.map PyData.int)
  | [] => .nil
  | n :: ns => .cons (.int n) (dp_ints ns)
theorem lay_ints : ∀ ns : List Int, PyData.canLayAll0 (ns.map PyData.int) = true
  | [] => rfl
  | n :: ns => by
    rw [List.map_cons, PyData.canLayAll0, lay_ints ns]
    rfl
theorem depth_ints : ∀ ns : List Int, PyData.depthAll (ns.map PyData.int) = 0
  | [] => rfl
  | n :: ns => by
    rw [List.map_cons, PyData.depthAll, depth_ints ns]
    rfl
theorem shaped_ints (ns : List Int) : SeqAt.shaped (.list (ns.map PyData.int)) = true := by
  show (PyData.canLay0 (.list (ns.map PyData.int)) && decide (PyData.depth (.list (ns.map PyData.int)) ≤ 64)) = true
  rw [Bool.and_eq_true]
  refine ⟨by rw [PyData.canLay0]; exact lay_ints ns, decide_eq_true ?_⟩
  rw [PyData.depth, depth_ints]
  decide
theorem shaped_intsT (ns : List Int) : SeqAt.shaped (.tuple (ns.map PyData.int)) = true := by
  show (PyData.canLay0 (.tuple (ns.map PyData.int)) && decide (PyData.depth (.tuple (ns.map PyData.int)) ≤ 64)) = true
  rw [Bool.and_eq_true]
  refine ⟨by rw [PyData.canLay0]; exact lay_ints ns, decide_eq_true ?_⟩
  rw [PyData.depth, depth_ints]
  decide
theorem eqD_same {K : PySem.W.Frag} {H : Hp} {x y : V} {Q : VK} {d : PyData} (hx : Dp K H x d) (hy : Dp K H y d) (sh : SeqAt.shaped d = true) (q : Q (.bl true) H) : rEqD K x y H Q :=
  ⟨d, d, hx, hy, sh, sh, by rw [SeqAt.eqv_refl d (SeqAt.canLay_of_shaped sh)]; exact q⟩
theorem neD_same {K : PySem.W.Frag} {H : Hp} {x y : V} {Q : VK} {d : PyData} (hx : Dp K H x d) (hy : Dp K H y d) (sh : SeqAt.shaped d = true) (q : Q (.bl false) H) : rNeD K x y H Q :=
  ⟨d, d, hx, hy, sh, sh, by rw [SeqAt.eqv_refl d (SeqAt.canLay_of_shaped sh)]; exact q⟩
/-! ### slices -/
theorem cut_to (ns : List Int) (k : Nat) : cutV (ns.map V.int) none (some (k : Int)) = (ns.take k).map V.int := by
  unfold cutV
  rw [HT.sIx_none, HT.sIx_nat, List.drop_zero, List.map_take, Nat.sub_zero, List.length_map]
  by_cases h : k ≤ ns.length
  · rw [Nat.min_eq_left h]
  · rw [Nat.min_eq_right (by omega), List.take_of_length_le (by rw [List.length_map]; omega), List.take_of_length_le (by rw [List.length_map]; omega)]
theorem cut_from (xs : List V) (k : Nat) : cutV xs (some (k : Int)) none = xs.drop k := by
  unfold cutV
  rw [HT.sIx_none, HT.sIx_nat]
  by_cases h : k ≤ xs.length
  · rw [Nat.min_eq_left h, List.take_of_length_le (by rw [List.length_drop]; omega)]
  · rw [Nat.min_eq_right (by omega), List.drop_of_length_le (by omega), List.drop_of_length_le (by omega)]
    exact List.take_nil
theorem isiF {K : PySem.W.Frag} {H : Hp} {i : Int} {Q : VK} (q : Q (.bl false) H) : rIsi K [.int i, .ty "bool"] H Q := ⟨_, _, _, _, false, rfl, ClsV.ty _, TyX.base (.int i), kit_ty (by decide +kernel), q⟩
theorem isiT {K : PySem.W.Frag} {H : Hp} {b : Bool} {Q : VK} (q : Q (.bl true) H) : rIsi K [.bl b, .ty "bool"] H Q := ⟨_, _, _, _, true, rfl, ClsV.ty _, TyX.base (.bl b), kit_ty (by decide +kernel), q⟩
theorem isiTup {K : PySem.W.Frag} {H : Hp} {a : Addr} {xs : List V} {Q : VK} (h : H a = some (.tup xs)) (q : Q (.bl true) H) : rIsi K [.ref a, .ty "tuple"] H Q := ⟨_, _, _, _, true, rfl, ClsV.ty _, TyX.base (.tup h), kit_ty (by decide +kernel), q⟩
theorem isiLst {K : PySem.W.Frag} {H : Hp} {a : Addr} {xs : List V} {Q : VK} (h : H a = some (.lst xs)) (q : Q (.bl true) H) : rIsi K [.ref a, .ty "list"] H Q := ⟨_, _, _, _, true, rfl, ClsV.ty _, TyX.base (.lst h), kit_ty (by decide +kernel), q⟩
/-! ### rules with the written part named -/
section
variable {X : Cx}
def rLenQ (K : PySem.W.Frag) : List V → Hp → VK → Prop := fun xs H Q => ∃ p ys, xs = [.ref p] ∧ (SqL K H p ys ∨ SqT K H p ys) ∧ Q (.int ys.length) H
def rListQ (K : PySem.W.Frag) : List V → Hp → VK → Prop := fun xs H Q => ∃ p ys, xs = [.ref p] ∧ (SqL K H p ys ∨ SqT K H p ys) ∧ ∀ l, H l = none → Q (.ref l) (upd H l (.lst ys))
def rTupQ (K : PySem.W.Frag) : List V → Hp → VK → Prop := fun xs H Q => ∃ p ys, xs = [.ref p] ∧ ((SqL K H p ys ∧ ∀ l, H l = none → Q (.ref l) (upd H l (.tup ys))) ∨ (SqT K H p ys ∧ Q (.ref p) H))
theorem ixL (K : PySem.W.Frag) (h : X.K = K := by rfl) : IxR X (rIxL K) := by subst h; exact ix_list
theorem ixT (K : PySem.W.Frag) (h : X.K = K := by rfl) : IxR X (rIxT K) := by subst h; exact ix_tup
theorem slL (K : PySem.W.Frag) (h : X.K = K := by rfl) : SlR X (rSlL K) := by subst h; exact sl_list
theorem slT (K : PySem.W.Frag) (h : X.K = K := by rfl) : SlR X (rSlT K) := by subst h; exact sl_tup
theorem lenQ (K : PySem.W.Frag) (h : X.K = K := by rfl) : CallR X (.builtin "len") (rLenQ K) := by subst h; exact call_len_seq
theorem listQ (K : PySem.W.Frag) (h : X.K = K := by rfl) : CallR X (.type "list") (rListQ K) := by subst h; exact call_list_of
theorem tupQ (K : PySem.W.Frag) (h : X.K = K := by rfl) : CallR X (.type "tuple") (rTupQ K) := by subst h; exact call_tuple_of
theorem isiQ (K : PySem.W.Frag) (h : X.K = K := by rfl) : CallR X (.builtin "isinstance") (rIsi K) := by subst h; exact call_isi
theorem eqDQ (K : PySem.W.Frag) (hu : X.A.units + 64 < cLine) (h : X.K = K := by rfl) : OpR X (compareOp .Eq) (rEqD K) := by subst h; exact op_eqD hu
theorem neDQ (K : PySem.W.Frag) (hu : X.A.units + 64 < cLine) (h : X.K = K := by rfl) : OpR X (compareOp .NotEq) (rNeD K) := by subst h; exact op_neD hu
theorem piL (K : PySem.W.Frag) {tg l : Expr} {tl : TE} (hl : PE X l tl) (h : X.K = K := by rfl) : PI X tg l (iList K tl) := by subst h; exact pi_list hl
theorem piT (K : PySem.W.Frag) {tg l : Expr} {tl : TE} (hl : PE X l tl) (h : X.K = K := by rfl) : PI X tg l (iTup K tl) := by subst h; exact pi_tup hl
theorem inQ (K : PySem.W.Frag) (h : X.K = K := by rfl) : OpR X (compareOp .In) (rIn K false) := by subst h; exact op_in_seq
theorem notInQ (K : PySem.W.Frag) (h : X.K = K := by rfl) : OpR X (compareOp .NotIn) (rIn K true) := by subst h; exact op_notIn_seq
end
/-! ### great numbers -/
section
variable {X : Cx}
/-- // by any divisor below 2 ^ 9000 -/
def CDivX (_ j : Int) : Prop := j ≠ 0 ∧ j.natAbs < 2 ^ 9000
theorem op_fdivX : OpR X (binaryOp .FloorDiv) (rI CDivX fun i j => .int (i.fdiv j)) := opI fun i j _ _ _ _ _ hc q =>
  floordiv_int hc.1 q (.inl (PyProof.noPylong_of_log2 (PySem.Flt.log2_lt_of (by decide) hc.2)))
end
theorem pow_up {n a b : Nat} (h : n < 2 ^ a) (hab : a ≤ b) : n < 2 ^ b := Nat.lt_of_lt_of_le h (Nat.pow_le_pow_right (by decide) hab)

/-! ### bounds by powers of two -/
def Bd (n : Nat) (x : Int) : Prop := x.natAbs < 2 ^ n
theorem Bd.mono {n m : Nat} {x : Int} (h : Bd n x) (l : n ≤ m) : Bd m x := Nat.lt_of_lt_of_le h (Nat.pow_le_pow_right (by decide) l)
theorem Bd.mul {n m : Nat} {x y : Int} (h1 : Bd n x) (h2 : Bd m y) : Bd (n + m) (x * y) := wide_lt h1 h2
theorem Bd.add {n m : Nat} {x y : Int} (h1 : Bd n x) (h2 : Bd m y) : Bd (max n m + 1) (x + y) := by
  have a1 := h1.mono (Nat.le_max_left n m)
  have a2 := h2.mono (Nat.le_max_right n m)
  unfold Bd at *
  rw [Nat.pow_succ]
  omega
theorem Bd.neg {n : Nat} {x : Int} (h : Bd n x) : Bd n (-x) := by
  unfold Bd at *
  rw [Int.natAbs_neg]
  exact h
theorem Bd.sub {n m : Nat} {x y : Int} (h1 : Bd n x) (h2 : Bd m y) : Bd (max n m + 1) (x - y) := by
  have h := h1.add h2.neg
  rw [← Int.sub_eq_add_neg] at h
  exact h
theorem Bd.l8 {x : Int} (h : (x.natAbs < 2 ^ 8) = True) : Bd 8 x := of_eq_true h
theorem Bd.lit {x : Int} (h : (x.natAbs < 2 ^ 64) = True) : Bd 64 x := of_eq_true h
theorem Bd.om {x : Int} (h : x.natAbs < 1152921504606846976) : Bd 60 x := h
theorem Bd.fdiv {n : Nat} {x y : Int} (h : Bd n x) : Bd n (x.fdiv y) := by
  unfold Bd at *
  exact Nat.lt_of_le_of_lt (Int.natAbs_fdiv_le_natAbs x y) h
theorem Bd.mod {n : Nat} {x y : Int} (h : Bd n y) (hy : y ≠ 0) : Bd n (x % y) := by
  unfold Bd at *
  have h0 := Int.emod_nonneg x hy
  have h1 := Int.emod_lt x hy
  omega
theorem Bd.abs {n : Nat} {x : Int} (h : Bd n x) : Bd n (x.natAbs : Int) := by
  unfold Bd at *
  rw [Int.natAbs_natCast]
  exact h
theorem Bd.div {n : Nat} {x y : Int} (h : Bd n x) : Bd n (x / y) := by
  unfold Bd at *
  exact Nat.lt_of_le_of_lt (Int.natAbs_ediv_le_natAbs x y) h
theorem bdm {n m : Nat} {x : Int} (h : Bd n x) (l : Nat.ble n m = true) : Bd m x := h.mono (Nat.le_of_ble_eq_true l)
theorem Bd.of {n : Nat} {x : Int} {m : Nat} (h : x.natAbs ≤ m) (l : m < 2 ^ n) : Bd n x := Nat.lt_of_le_of_lt h l
theorem Bd.mulW {n m : Nat} {x y : Int} (h1 : Bd n x) (h2 : Bd m y) (l : n + m ≤ 900000) : CMulW x y :=
  wide_mul (a := n + 1) (b := m + 1) (h1.mono (Nat.le_succ n)) (h2.mono (Nat.le_succ m)) (Nat.succ_pos n) (Nat.succ_pos m) (by omega)
theorem Bd.x4 {n m : Nat} {x y : Int} (h1 : Bd n x) (l : n ≤ m) (h : y = x) : Bd m y := h ▸ h1.mono l
/-! ### heaps -/
theorem same_seqT {K : PySem.W.Frag} {H H' : Hp} {a : Addr} {xs : List V} (e : Same H H') (h : SqT K H a xs) : SqT K H' a xs := by
  rcases h with (h | ⟨o, h⟩) | h
  · exact .inl (.inl (e _ _ h))
  · exact .inl (.inr ⟨o, e _ _ h⟩)
  · exact .inr h
/-- tuples stay -/
def KT (K : PySem.W.Frag) (H H' : Hp) : Prop := ∀ a xs, SqT K H a xs → SqT K H' a xs
/-- all but p stays -/
def Frm (p : Addr) (H H' : Hp) : Prop := ∀ b, b ≠ p → H' b = H b
/-- all that was tracked, but p, stays -/
def Kp (p : Addr) (H H' : Hp) : Prop := ∀ b o, b ≠ p → H b = some o → H' b = some o
theorem same_kt {K : PySem.W.Frag} {H H' : Hp} (e : Same H H') : KT K H H' := fun _ _ h => same_seqT e h
theorem same_kp {p : Addr} {H H' : Hp} (e : Same H H') : Kp p H H' := fun b o _ h => e b o h
theorem frm_kp {p : Addr} {H H' : Hp} (f : Frm p H H') : Kp p H H' := fun b o n h => (f b n).trans h
theorem Kp.refl {p : Addr} {H : Hp} : Kp p H H := fun b o _ h => h
theorem Kp.trans {p : Addr} {H H1 H2 : Hp} (a : Kp p H H1) (b : Kp p H1 H2) : Kp p H H2 := fun c o n h => b c o n (a c o n h)
theorem KT.trans {K : PySem.W.Frag} {H H1 H2 : Hp} (a : KT K H H1) (b : KT K H1 H2) : KT K H H2 := fun c xs h => b c xs (a c xs h)
theorem KT.refl {K : PySem.W.Frag} {H : Hp} : KT K H H := fun _ _ h => h
theorem kpB {p : Addr} {H H1 H' : Hp} (e : Kp p H1 H') (s : Kp p H H1) : Kp p H H' := s.trans e
theorem sameB {H H1 H' : Hp} (e : Same H1 H') (s : Same H H1) : Same H H' := s.trans e
theorem same_at {H H' : Hp} {a : Addr} {o : HO} (e : Same H H') (h : H a = some o) : H' a = some o := e _ _ h
theorem kp_at {p : Addr} {H H' : Hp} {a : Addr} {o : HO} (e : Kp p H H') (n : a ≠ p) (h : H a = some o) : H' a = some o := e _ _ n h
theorem KT.use {K : PySem.W.Frag} {H H' : Hp} {a : Addr} {xs : List V} (e : KT K H H') (h : SqT K H a xs) : SqT K H' a xs := e a xs h
theorem Kp.kt {K : PySem.W.Frag} {H H' : Hp} {p a : Addr} {N : Nat} (f : Kp p H H') (d : Dw H p a N) : KT K H H' := fun c xs h => by
  obtain ⟨m, ns, h1, h2, h3, h4⟩ := d
  rcases h with (h | ⟨o, h⟩) | h
  · refine .inl (.inl (f c _ ?_ h))
    rintro rfl
    rw [h3] at h
    cases h
  · refine .inl (.inr ⟨o, f c _ ?_ h⟩)
    rintro rfl
    rw [h3] at h
    cases h
  · exact .inr h
theorem kp_seqT {K : PySem.W.Frag} {H H' : Hp} {p a b : Addr} {N : Nat} {xs : List V} (f : Kp p H H') (d : Dw H p a N) (h : SqT K H b xs) : SqT K H' b xs := f.kt d b xs h
theorem Kp.seqL {K : PySem.W.Frag} {p : Addr} {H H' : Hp} {a : Addr} {xs : List V} (f : Kp p H H') (n : a ≠ p) (h : SqL K H a xs) : SqL K H' a xs := by
  rcases h with (h | ⟨o, h⟩) | h
  · exact .inl (.inl (f _ _ n h))
  · exact .inl (.inr ⟨o, f _ _ n h⟩)
  · exact .inr h
theorem Dw.kp0 {H : Hp} {p a q : Addr} {o : HO} (h : H q = none) : Kp p H (upd H q o) := same_kp (same_upd h)
theorem fresh_ne {H : Hp} {o p a : Addr} {N : Nat} (h : H o = none) (d : Dw H p a N) : o ≠ p := (d.ne h).1
section
variable {X : Cx}
def rAbs (_ : PySem.W.Frag) : List V → Hp → VK → Prop := fun xs H Q => ∃ i : Int, xs = [.int i] ∧ Q (.int (i.natAbs : Int)) H
def rInt (_ : PySem.W.Frag) : List V → Hp → VK → Prop := fun xs H Q => (∃ i : Int, xs = [.int i] ∧ Q (.int i) H) ∨ ∃ k : Bool, xs = [.bl k] ∧ Q (.int (if k then 1 else 0)) H
theorem absQ (K : PySem.W.Frag) : CallR X (.builtin "abs") (rAbs K) := by
  intro pins s σ H xs us Q I r h
  obtain ⟨i, e, q⟩ := h
  exact call_abs pins s σ H xs us Q I r ⟨i, e, by rw [abs_int]; exact q⟩
theorem intQ (K : PySem.W.Frag) : CallR X (.type "int") (rInt K) := call_int1
theorem minQ (K : PySem.W.Frag) (hc : X.calm = true := by rfl) (h : X.K = K := by rfl) : CallR X (.builtin "min") (rMin K) := by
  subst h
  exact cr_min hc
theorem pgT (K : PySem.W.Frag) (n : Nat) {es : List Expr} {k : Nat} {pos : Pos} {t : TGs} (hc : X.calm = true) (h : PGs X es t) (hn : (assignEach es X.env).length = n := by rfl) (hst : (assignEach es X.env).findIdx? (·.1) = none := by rfl) (hK : X.K = K := by rfl) : PG X (.Tuple es k pos) (gTup K n t) := by
  subst hK
  exact pg_tup hc h hn hst
end
namespace R
section
variable {K : PySem.W.Frag} {σ : L2.St} {H : Hp} {Q : VK} {ta tb te : TE} {v x y : V} {i j : Int}
theorem var {n : Nat} (h : σ[n]? = some (some v)) (q : Q v H) : tVar n σ H Q := ⟨v, h, q⟩
theorem con (q : Q v H) : tC v σ H Q := q
theorem op {r : R2} (h : ta σ H fun x H1 => tb σ H1 fun y H2 => r x y H2 Q) : tOp r ta tb σ H Q := h
theorem un {r : V → Hp → VK → Prop} (h : ta σ H fun x H1 => r x H1 Q) : tUn r ta σ H Q := h
theorem i0 {g : Int → Int → V} (q : Q (g i j) H) : rI0 g (.int i) (.int j) H Q := ⟨i, j, rfl, rfl, q⟩
theorem i2 {C : Int → Int → Prop} {g : Int → Int → V} (c : C i j) (q : Q (g i j) H) : rI C g (.int i) (.int j) H Q := ⟨i, j, rfl, rfl, c, q⟩
theorem u1 {g : Int → V} (q : Q (g i) H) : rU g (.int i) H Q := ⟨i, rfl, q⟩
theorem ixT {p : Addr} {xs : List V} (h : SqT K H p xs) (e : atI xs i = some v) (q : Q v H) : rIxT K (.ref p) (.int i) H Q := ⟨p, xs, i, v, rfl, rfl, h, e, q⟩
theorem ixL {p : Addr} {xs : List V} (h : SqL K H p xs) (e : atI xs i = some v) (q : Q v H) : rIxL K (.ref p) (.int i) H Q := ⟨p, xs, i, v, rfl, rfl, h, e, q⟩
theorem nil {Q : List V → Hp → Prop} (q : Q [] H) : tNil σ H Q := q
theorem cons {tr : TA} {Q : List V → Hp → Prop} (h : ta σ H fun x H1 => tr σ H1 fun xs H2 => Q (x :: xs) H2) : tCons ta tr σ H Q := h
/-- what is wanted of a new tuple, a new list -/
def NwT (H : Hp) (xs : List V) (Q : VK) : Prop := xs.length ≤ sizeLine ∧ ∀ p, H p = none → Q (.ref p) (upd H p (.tup xs))
def NwL (H : Hp) (xs : List V) (Q : VK) : Prop := xs.length ≤ sizeLine ∧ ∀ p, H p = none → Q (.ref p) (upd H p (.lst xs))
def Nw (H : Hp) (xs : List V) (Q : VK) : Prop := ∀ H' t, Same H H' → H' t = some (.tup xs) → Q (.ref t) H'
theorem nw {xs : List V} (h : ∀ H' t, Same H H' → H' t = some (.tup xs) → Q (.ref t) H') : Nw H xs Q := h
def Mt (H : Hp) (xs : List V) (Q : VK) : Prop := ∀ H' p, Same H H' → H p = none → H' p = some (.tup xs) → Q (.ref p) H'
def Ml (H : Hp) (xs : List V) (Q : VK) : Prop := ∀ H' p, Same H H' → H p = none → H' p = some (.lst xs) → Q (.ref p) H'
theorem mt {xs : List V} (h : ∀ H' p, Same H H' → H p = none → H' p = some (.tup xs) → Q (.ref p) H') : Mt H xs Q := h
theorem ml {xs : List V} (h : ∀ H' p, Same H H' → H p = none → H' p = some (.lst xs) → Q (.ref p) H') : Ml H xs Q := h
theorem tup {t : TA} (h : t σ H fun xs H1 => NwT H1 xs Q) : tTup t σ H Q := h
theorem lst {t : TA} (h : t σ H fun xs H1 => NwL H1 xs Q) : tLst t σ H Q := h
theorem nwT {xs : List V} (l : Nat.ble xs.length 1000 = true) (q : Mt H xs Q) : NwT H xs Q :=
  ⟨Nat.le_of_lt (small1000 (Nat.le_of_ble_eq_true l)), fun p n => q _ p (same_upd n) n upd_same⟩
theorem nwL {xs : List V} (l : Nat.ble xs.length 1000 = true) (q : Ml H xs Q) : NwL H xs Q :=
  ⟨Nat.le_of_lt (small1000 (Nat.le_of_ble_eq_true l)), fun p n => q _ p (same_upd n) n upd_same⟩
theorem call {sp : Sp} {dvs : List V} {E : XK} {t : TA} (h : t σ H fun vs H1 => sp (vs ++ dvs) H1 Q E) : tCall sp dvs E t σ H Q := h
theorem callB {r : List V → Hp → VK → Prop} {t : TA} (h : t σ H fun vs H1 => r vs H1 Q) : tCB r t σ H Q := h
theorem gname {n : Nat} {Q : L2.St → Hp → Prop} (h : Q (σ.set n (some v)) H) : gName n v σ H Q := h
theorem gtup {n : Nat} {t : TGs} {a : Addr} {xs : List V} {Q : L2.St → Hp → Prop} (h1 : SqT K H a xs) (h2 : xs.length = n) (h : t xs σ H Q) : gTup K n t (.ref a) σ H Q := ⟨a, xs, rfl, h1, h2, h⟩
theorem gcons {t : TG} {u : TGs} {r : List V} {Q : L2.St → Hp → Prop} (h : t v σ H fun σ' H' => u r σ' H' Q) : gCons t u (v :: r) σ H Q := ⟨v, r, rfl, h⟩
theorem gnil {Q : L2.St → Hp → Prop} (h : Q σ H) : gNil [] σ H Q := ⟨rfl, h⟩
variable {nx : L2.St → Hp → Prop} {rt : VK} {bk ct : L2.St → Hp → Prop} {t u : TS} {c : TT}
theorem seq (h : t (Ends.mk (u (Ends.mk nx rt bk ct)) rt bk ct) σ H) : tSeq t u (Ends.mk nx rt bk ct) σ H := h
theorem asg {g : TG} (h : te σ H fun x H1 => g x σ H1 nx) : tAsg te g (Ends.mk nx rt bk ct) σ H := h
theorem brk (h : bk σ H) : tBreak (Ends.mk nx rt bk ct) σ H := h
theorem cont (h : ct σ H) : tCont (Ends.mk nx rt bk ct) σ H := h
theorem ret (h : te σ H rt) : tRet te (Ends.mk nx rt bk ct) σ H := h
theorem next (h : nx σ H) : tNext (Ends.mk nx rt bk ct) σ H := h
theorem drop (h : te σ H fun _ H1 => nx σ H1) : tDrop te (Ends.mk nx rt bk ct) σ H := h
theorem par {i j : Nat} {ta : TA} (h : ta σ H fun vs H1 => ∃ v w, vs = [v, w] ∧ nx ((σ.set i (some v)).set j (some w)) H1) : tPar i j ta (Ends.mk nx rt bk ct) σ H := h
theorem par3 {i j l : Nat} {ta : TA} (h : ta σ H fun vs H1 => ∃ u v w, vs = [u, v, w] ∧ nx (((σ.set i (some u)).set j (some v)).set l (some w)) H1) : tPar3 i j l ta (Ends.mk nx rt bk ct) σ H := h
theorem par4 {z : V} {P : V → V → V → Prop} (h : P x y z) : ∃ u v w, [x, y, z] = [u, v, w] ∧ P u v w := ⟨x, y, z, rfl, h⟩
theorem par2 {P : V → V → Prop} (h : P x y) : ∃ v w, [x, y] = [v, w] ∧ P v w := ⟨x, y, rfl, h⟩
theorem ifs (h : c σ H fun b H1 => if b = true then t (Ends.mk nx rt bk ct) σ H1 else u (Ends.mk nx rt bk ct) σ H1) : tIfS c t u (Ends.mk nx rt bk ct) σ H := h
theorem tif (h : c σ H fun b H1 => if b = true then ta σ H1 Q else tb σ H1 Q) : tIf c ta tb σ H Q := h
theorem test {Q : Bool → Hp → Prop} (h : te σ H fun x H' => ∃ k, x = .bl k ∧ Q k H') : tTest te σ H Q := h
theorem tb' {Q : Bool → Hp → Prop} (h : te σ H fun x H' => ∃ k, x = .bl k ∧ Q k H') : tB te σ H Q := h
theorem isbl {b : Bool} {P : Bool → Prop} (h : P b) : ∃ k, V.bl b = .bl k ∧ P k := ⟨b, rfl, h⟩
theorem cmp {p : Int → Int → Bool} (h : t2I ta tb (fun i j H2 => Q (.bl (p i j)) H2) σ H) : tCmp p ta tb σ H Q := h
theorem t2i {k : Int → Int → Hp → Prop} (h : ta σ H fun x H1 => tb σ H1 fun y H2 => ∃ i j, x = .int i ∧ y = .int j ∧ k i j H2) : t2I ta tb k σ H := h
theorem intp {k : Int → Int → Prop} (h : k i j) : ∃ a b : Int, V.int i = .int a ∧ V.int j = .int b ∧ k a b := ⟨i, j, rfl, rfl, h⟩
theorem cut {Mid : L2.St → Hp → Prop} (h1 : t (Ends.mk Mid rt bk ct) σ H) (h2 : ∀ σ' H', Mid σ' H' → u (Ends.mk nx rt bk ct) σ' H') : C8.tCut t u (Ends.mk nx rt bk ct) σ H := ⟨Mid, h1, h2⟩
variable {d : TT}
theorem and {Q : Bool → Hp → Prop} (h : c σ H fun k H1 => if k = true then d σ H1 Q else Q false H1) : tAnd c d σ H Q := h
theorem or {Q : Bool → Hp → Prop} (h : c σ H fun k H1 => if k = true then Q true H1 else d σ H1 Q) : tOr c d σ H Q := h
theorem not {Q : Bool → Hp → Prop} (h : c σ H fun k H1 => Q (!k) H1) : tNot c σ H Q := h
theorem andV (h : ta σ H fun x H1 => ∃ c, x = .bl c ∧ if c = true then tb σ H1 Q else Q (.bl false) H1) : tAndV ta tb σ H Q := h
theorem orV (h : ta σ H fun x H1 => ∃ c, x = .bl c ∧ if c = true then Q (.bl true) H1 else tb σ H1 Q) : tOrV ta tb σ H Q := h
theorem notV (h : ta σ H fun x H1 => ∃ c, x = .bl c ∧ Q (.bl (!c)) H1) : tNotV ta σ H Q := h
theorem chain {r r' : R2} {tc : TE} (h : ta σ H fun x H1 => tb σ H1 fun y H2 => r x y H2 fun z H3 => ∃ k, z = .bl k ∧ (if k = true then tc σ H3 fun w' H4 => r' y w' H4 Q else Q (.bl false) H3)) : tChain r r' ta tb tc σ H Q := h
theorem tupL {p : Addr} {ys : List V} (h : SqL K H p ys) (q : Mt H ys Q) : rTupQ K [.ref p] H Q := ⟨p, ys, rfl, .inl ⟨h, fun l n => q _ l (same_upd n) n upd_same⟩⟩
theorem lstL {p : Addr} {ys : List V} (h : SqL K H p ys) (q : Ml H ys Q) : rListQ K [.ref p] H Q := ⟨p, ys, rfl, .inl h, fun l n => q _ l (same_upd n) n upd_same⟩
theorem cat {l b : Addr} {xs zs : List V} (h1 : H l = some (.lst xs)) (h2 : H b = some (.lst zs)) (z : Nat.ble (xs.length + zs.length) 100000 = true) (q : Ml H (xs ++ zs) Q) : rCat (.ref l) (.ref b) H Q :=
  ⟨l, b, xs, zs, rfl, rfl, h1, h2, Nat.le_of_lt (Nat.lt_of_le_of_lt (Nat.le_of_ble_eq_true z) (by decide)), fun p n => q _ p (same_upd n) n upd_same⟩
theorem sl {r : V → Option Int → Option Int → Hp → VK → Prop} {tl th : TO} (h : te σ H fun x H1 => tl σ H1 fun l H2 => th σ H2 fun u H3 => r x l u H3 Q) : tSl r te tl th σ H Q := h
theorem noPart {Q : Option Int → Hp → Prop} (h : Q none H) : tNoPart σ H Q := h
theorem part {Q : Option Int → Hp → Prop} (h : te σ H fun x H1 => ∃ i, x = .int i ∧ Q (some i) H1) : tPart te σ H Q := h
theorem isInt {P : Int → Prop} (h : P i) : ∃ k, V.int i = .int k ∧ P k := ⟨i, rfl, h⟩
theorem slL {a : Addr} {xs : List V} {lo hi : Option Int} (h : SqL K H a xs) (q : Ml H (cutV xs lo hi) Q) : rSlL K (.ref a) lo hi H Q := ⟨a, xs, rfl, h, fun p n => q _ p (same_upd n) n upd_same⟩
theorem absI (q : Q (.int (i.natAbs : Int)) H) : rAbs K [.int i] H Q := ⟨i, rfl, q⟩
theorem intI (q : Q (.int i) H) : rInt K [.int i] H Q := .inl ⟨i, rfl, q⟩
theorem intB {b : Bool} (q : Q (.int (if b then 1 else 0)) H) : rInt K [.bl b] H Q := .inr ⟨b, rfl, q⟩
theorem lenT {p : Addr} {ys : List V} (h : SqT K H p ys) (q : Q (.int (ys.length : Int)) H) : rLenQ K [.ref p] H Q := ⟨p, ys, rfl, .inr h, q⟩
theorem lenL {p : Addr} {ys : List V} (h : SqL K H p ys) (q : Q (.int (ys.length : Int)) H) : rLenQ K [.ref p] H Q := ⟨p, ys, rfl, .inl h, q⟩
theorem eqS {a b : Str} (q : Q (.bl (decide (V.str a = V.str b))) H) : rEq (.str a) (.str b) H Q := ⟨rfl, q⟩
theorem eqBl {a b : Bool} (q : Q (.bl (decide (V.bl a = V.bl b))) H) : rEq (.bl a) (.bl b) H Q := ⟨rfl, q⟩
theorem neBl {a b : Bool} (q : Q (.bl (!decide (V.bl a = V.bl b))) H) : rNe (.bl a) (.bl b) H Q := ⟨rfl, q⟩
theorem isiTupS {a : Addr} {xs : List V} (h : SqT K H a xs) (q : Q (.bl true) H) : rIsi K [.ref a, .ty "tuple"] H Q := by
  rcases h with (h | ⟨o, h⟩) | ⟨o, its, n, h1, h2, _⟩
  · exact Wc.isiTup h q
  · exact ⟨_, _, _, _, true, rfl, ClsV.ty _, TyX.fTuple h, kit_ty (by decide +kernel), q⟩
  · exact ⟨_, _, _, _, true, rfl, ClsV.ty _, TyX.kTuple h1 h2, kit_ty (by decide +kernel), q⟩
theorem slT {a : Addr} {xs : List V} {lo hi : Option Int} (h : SqT K H a xs) (n : ¬ (HT.sIx xs.length 0 lo = 0 ∧ HT.sIx xs.length xs.length hi = xs.length)) (q : Mt H (cutV xs lo hi) Q) : rSlT K (.ref a) lo hi H Q := ⟨a, xs, rfl, h, n, fun p nn => q _ p (same_upd nn) nn upd_same⟩
theorem isiT {b : Bool} (q : Q (.bl true) H) : rIsi K [.bl b, .ty "bool"] H Q := Wc.isiT q
theorem isiTup {a : Addr} {xs : List V} (h : H a = some (.tup xs)) (q : Q (.bl true) H) : rIsi K [.ref a, .ty "tuple"] H Q := Wc.isiTup h q
theorem isiLst {a : Addr} {xs : List V} (h : H a = some (.lst xs)) (q : Q (.bl true) H) : rIsi K [.ref a, .ty "list"] H Q := Wc.isiLst h q
/-! == of tuples of ints -/
theorem eqB {ns ms : List Int} : PyData.eqv (.tuple (ns.map PyData.int)) (.tuple (ms.map PyData.int)) = decide (ns = ms) := by
  have h : ∀ ns ms : List Int, PyData.eqvAll (ns.map PyData.int) (ms.map PyData.int) = decide (ns = ms) := by
    intro ns
    induction ns with
    | nil => intro ms; cases ms <;> simp [PyData.eqvAll]
    | cons n ns ih => intro ms; cases ms with
      | nil => simp [PyData.eqvAll]
      | cons m ms =>
        rw [List.map_cons, List.map_cons, PyData.eqvAll, ih]
        by_cases h : n = m
        · simp [PyData.eqv, h]
        · simp [PyData.eqv, h]
  rw [PyData.eqv]
  exact h ns ms
theorem eqTs {p q : Addr} {ns ms : List Int} {b : Bool} (h1 : SqT K H p (ns.map V.int)) (h2 : SqT K H q (ms.map V.int)) (hb : b = decide (ns = ms)) (h : Q (.bl b) H) : rEqD K (.ref p) (.ref q) H Q :=
  ⟨_, _, .tup h1 (dp_ints ns), .tup h2 (dp_ints ms), shaped_intsT ns, shaped_intsT ms, by rw [eqB, ← hb]; exact h⟩
theorem neTs {p q : Addr} {ns ms : List Int} {b : Bool} (h1 : SqT K H p (ns.map V.int)) (h2 : SqT K H q (ms.map V.int)) (hb : b = decide (ns = ms)) (h : Q (.bl (!b)) H) : rNeD K (.ref p) (.ref q) H Q :=
  ⟨_, _, .tup h1 (dp_ints ns), .tup h2 (dp_ints ms), shaped_intsT ns, shaped_intsT ms, by rw [eqB, ← hb]; exact h⟩
variable {p q : Addr} {a b c d a' b' c' d' : Int}
theorem eq2 (h1 : SqT K H p [.int a, .int b]) (h2 : SqT K H q [.int a', .int b']) (h : Q (.bl (decide (a = a' ∧ b = b'))) H) : rEqD K (.ref p) (.ref q) H Q :=
  eqTs (ns := [a, b]) (ms := [a', b']) h1 h2 (by simp) h
theorem ne2 (h1 : SqT K H p [.int a, .int b]) (h2 : SqT K H q [.int a', .int b']) (h : Q (.bl (!decide (a = a' ∧ b = b'))) H) : rNeD K (.ref p) (.ref q) H Q :=
  neTs (ns := [a, b]) (ms := [a', b']) h1 h2 (by simp) h
theorem eq3 (h1 : SqT K H p [.int a, .int b, .int c]) (h2 : SqT K H q [.int a', .int b', .int c']) (h : Q (.bl (decide (a = a' ∧ b = b' ∧ c = c'))) H) : rEqD K (.ref p) (.ref q) H Q :=
  eqTs (ns := [a, b, c]) (ms := [a', b', c']) h1 h2 (by simp) h
theorem ne3 (h1 : SqT K H p [.int a, .int b, .int c]) (h2 : SqT K H q [.int a', .int b', .int c']) (h : Q (.bl (!decide (a = a' ∧ b = b' ∧ c = c'))) H) : rNeD K (.ref p) (.ref q) H Q :=
  neTs (ns := [a, b, c]) (ms := [a', b', c']) h1 h2 (by simp) h
theorem eq4 (h1 : SqT K H p [.int a, .int b, .int c, .int d]) (h2 : SqT K H q [.int a', .int b', .int c', .int d']) (h : Q (.bl (decide (a = a' ∧ b = b' ∧ c = c' ∧ d = d'))) H) : rEqD K (.ref p) (.ref q) H Q :=
  eqTs (ns := [a, b, c, d]) (ms := [a', b', c', d']) h1 h2 (by simp) h
theorem ne4 (h1 : SqT K H p [.int a, .int b, .int c, .int d]) (h2 : SqT K H q [.int a', .int b', .int c', .int d']) (h : Q (.bl (!decide (a = a' ∧ b = b' ∧ c = c' ∧ d = d'))) H) : rNeD K (.ref p) (.ref q) H Q :=
  neTs (ns := [a, b, c, d]) (ms := [a', b', c', d']) h1 h2 (by simp) h
/-! loops over ranges, comprehensions -/
def ForJ (J : It) (g : TG) (tb : TS) (D : Ends) (σ : L2.St) (H1 : Hp) : Prop := tFor (fun _ Hs R => R J Hs) g tb D σ H1
theorem forE {wi : TI} {g : TG} {tb : TS} {D : Ends} (h : wi σ H fun J H1 => ForJ J g tb D σ H1) : tFor wi g tb D σ H := h
def RgOne (vs : List V) (P : Int → Prop) : Prop := ∃ j : Int, vs = [.int j] ∧ -(2 ^ 62) ≤ j ∧ j < 2 ^ 62 ∧ P j
def RgTwo (vs : List V) (P : Int → Int → Prop) : Prop := ∃ i j : Int, vs = [.int i, .int j] ∧ (-(2 ^ 62) ≤ i ∧ i < 2 ^ 62 ∧ -(2 ^ 62) ≤ j ∧ j < 2 ^ 62) ∧ P i j
theorem rng1 {ta : TA} {R : It → Hp → Prop} (h : ta σ H fun vs H1 => RgOne vs fun j => R (Itr 0 j.toNat) H1) : iRng1 ta σ H R := h
theorem rng2 {ta : TA} {R : It → Hp → Prop} (h : ta σ H fun vs H1 => RgTwo vs fun i j => R (Itr i (j - i).toNat) H1) : iRng2 ta σ H R := h
theorem rg1 {P : Int → Prop} {j : Int} (h1 : -(2 ^ 62) ≤ j) (h2 : j < 2 ^ 62) (h : P j) : RgOne [.int j] P := ⟨j, rfl, h1, h2, h⟩
theorem rg2 {P : Int → Int → Prop} {i j : Int} (h1 : -(2 ^ 62) ≤ i) (h2 : i < 2 ^ 62) (h3 : -(2 ^ 62) ≤ j) (h4 : j < 2 ^ 62) (h : P i j) : RgTwo [.int i, .int j] P := ⟨i, j, rfl, ⟨h1, h2, h3, h4⟩, h⟩
theorem forN {lo : Int} {n : Nat} {g : TG} {tb : TS} {D : Ends} (Pv : Nat → L2.St → Hp → Prop) (h0 : Pv 0 σ H)
    (hs : ∀ i σ H, i < n → Pv i σ H → g (.int (lo + i)) σ H fun σ2 H2 => tb (Ends.mk (Pv (i + 1)) D.rt D.nx (Pv (i + 1))) σ2 H2) (hd : ∀ σ H, Pv n σ H → D.nx σ H) : ForJ (Itr lo n) g tb D σ H := for_range Pv h0 hs hd
def RefOne (v : V) (P : Addr → Prop) : Prop := ∃ a, v = .ref a ∧ P a
theorem itup {tl : TE} {R : It → Hp → Prop} (h : tl σ H fun x H1 => ∃ a, x = .ref a ∧ (∃ xs, SqT K H1 a xs) ∧ R (Itt K a) H1) : iTup K tl σ H R := h
theorem ilst {tl : TE} {R : It → Hp → Prop} (h : tl σ H fun x H1 => ∃ a, x = .ref a ∧ (∃ xs, SqL K H1 a xs) ∧ R (Itl K a) H1) : iList K tl σ H R := h
theorem refs {p : Addr} {xs : List V} {S : Addr → List V → Prop} {R : Addr → Prop} (h1 : S p xs) (h : R p) : ∃ a, V.ref p = .ref a ∧ (∃ ys, S a ys) ∧ R a := ⟨p, rfl, ⟨xs, h1⟩, h⟩
def LcJ (J : It) (g : TG) (tt : TT) (te : TE) (vs : List Nat) (σ : L2.St) (H1 : Hp) (Q : VK) : Prop := tLc (fun _ Hs R => R J Hs) g tt te vs σ H1 Q
theorem lcE {wi : TI} {g : TG} {tt : TT} {vs : List Nat} (h : wi σ H fun J H1 => LcJ J g tt te vs σ H1 Q) : tLc wi g tt te vs σ H Q := h
/-- [int for k in range(n)], each of them by c draws -/
theorem lcI {p a : Addr} {N c n : Nat} {lo : Int} {g : TG} {vs : List Nat} (P : Int → Prop) (hn : n ≤ 900) (d : Dw H p a N)
    (hs : ∀ i H' (Q' : VK), i < n → Dw H' p a (N + c * i) → Kp p H H' → (∀ x H4, P x → Dw H4 p a (N + c * i + c) → Kp p H' H4 → Q' (.int x) H4) → g (.int (lo + i)) (wipe σ vs) H' fun σ2 H2 => wipe σ2 vs = wipe σ vs ∧ te σ2 H2 Q')
    (hq : ∀ H' D (xs : List Int), H' D = some (.lst (xs.map V.int)) → xs.length = n → (∀ x ∈ xs, P x) → Dw H' p a (N + c * n) → Kp p H H' → H D = none → D ≠ p → Q (.ref D) H') : LcJ (Itr lo n) g tYes te vs σ H Q := by
  intro D nD
  have Dp := (d.ne nD).1
  have Da := (d.ne nD).2
  refine lc_range (lo := lo) (n := n) (fun i H' => ∃ xs : List Int, H' D = some (.lst (xs.map V.int)) ∧ xs.length = i ∧ (∀ x ∈ xs, P x) ∧ Dw H' p a (N + c * i) ∧ Kp p H H')
    ⟨[], upd_same, rfl, (fun x h => nomatch h), (d.new nD).mono (by omega), same_kp (same_upd nD)⟩ (fun i H5 hi ⟨xs, h1, h2, h3, h4, h5⟩ => ?_) (fun H5 ⟨xs, h1, h2, h3, h4, h5⟩ => hq H5 D xs h1 h2 h3 h4 h5 nD Dp)
  refine hs i H5 _ hi h4 h5 (fun x H4 px d4 k4 => ⟨_, k4 _ _ Dp h1, ?_, xs ++ [x], ?_, ?_, ?_, ?_, ?_⟩)
  · rw [List.length_map]
    exact small1000 (by omega)
  · rw [upd_same, List.map_append]
    rfl
  · rw [List.length_append, h2]
    rfl
  · intro z hz
    rcases List.mem_append.mp hz with hz | hz
    · exact h3 z hz
    · rw [List.mem_singleton.mp hz]
      exact px
  · have e : N + c * (i + 1) = N + c * i + c := by rw [Nat.mul_add, Nat.mul_one, Nat.add_assoc]
    rw [e]
    exact d4.mut Dp Da
  · intro b o hb e
    have e2 := k4 _ _ hb (h5 _ _ hb e)
    rw [upd_ne (ne_of_none e nD)]
    exact e2
/-- [f(x) for x in a tuple (a list) of ints] -/
theorem lcT {a : Addr} {ns : List Int} {g : TG} {vs : List Nat} (f : Int → Int) (hl : ns.length ≤ 900) (hT : SqT K H a (ns.map V.int))
    (hs : ∀ n H' (Q' : VK), n ∈ ns → Same H H' → Q' (.int (f n)) H' → g (.int n) (wipe σ vs) H' fun σ2 H2 => wipe σ2 vs = wipe σ vs ∧ te σ2 H2 Q')
    (hq : ∀ H' D, H' D = some (.lst ((ns.map f).map V.int)) → Same H H' → H D = none → Q (.ref D) H') : LcJ (Itt K a) g tYes te vs σ H Q := by
  intro D nD
  refine lc_tup (K := K) (a := a) (xs := ns.map V.int) (fun i H' => H' D = some (.lst (((ns.take i).map f).map V.int)) ∧ Same H H') ⟨upd_same, same_upd nD⟩ (fun i H' _ h => same_seqT h.2 hT) (fun i x H5 hx ⟨h1, h5⟩ => ?_) (fun H5 ⟨h1, h5⟩ => ?_)
  · rw [List.getElem?_map] at hx
    cases hn : ns[i]? with
    | none =>
      rw [hn] at hx
      cases hx
    | some n =>
      rw [hn] at hx
      cases hx
      refine hs n H5 _ (List.mem_of_getElem? hn) h5 ⟨_, h1, ?_, ?_, ?_⟩
      · rw [List.length_map, List.length_map, List.length_take]
        exact small1000 (by omega)
      · rw [upd_same, List.take_add_one, hn, List.map_append, List.map_append]
        rfl
      · exact same_mut h5 nD
  · rw [List.length_map, List.take_length] at h1
    exact hq H5 D h1 h5 nD
end
theorem isEq {α : Sort _} {a b : α} (h : a = b) : a = b := h
theorem bm {σ : L2.St} {H : Hp} {Q : VK} {T : String} {r : V → List V → Hp → VK → Prop} {to : TE} {t : TA} {K : PySem.W.Frag} (h : to σ H fun x H1 => tyV K T x H1 ∧ t σ H1 fun xs H2 => r x xs H2 Q) : tBM K T r to t σ H Q := h
theorem bmT {H : Hp} {K : PySem.W.Frag} {p : Addr} {xs : List V} {B : Prop} (h1 : H p = some (.lst xs)) (h2 : B) : tyV K "list" (.ref p) H ∧ B := ⟨.inl ⟨rfl, _, SqL.of h1⟩, h2⟩
theorem app {H : Hp} {Q : VK} {l : Addr} {xs : List V} {y : V} (h : H l = some (.lst xs)) (z : xs.length ≤ 1000000) (q : ∀ H', H' = upd H l (.lst (xs ++ [y])) → H' l = some (.lst (xs ++ [y])) → Q .non H') : rAppend (.ref l) [y] H Q :=
  ⟨l, xs, y, rfl, rfl, h, Nat.lt_of_le_of_lt z (by decide), q _ rfl upd_same⟩
theorem dput {σ : L2.St} {H : Hp} {td ty tv : TE} {nx : L2.St → Hp → Prop} {rt : VK} {bk ct : L2.St → Hp → Prop} (h : tv σ H fun v H1 => td σ H1 fun x H2 => ty σ H2 fun y H3 => ∃ a H4, x = .ref a ∧ DPut H3 a y v H4 ∧ nx σ H4) : sDPut td ty tv (Ends.mk nx rt bk ct) σ H := h
theorem dget {σ : L2.St} {H : Hp} {Q : VK} {td ty : TE} (h : td σ H fun x H1 => ty σ H1 fun y H2 => ∃ a v, x = .ref a ∧ DGet H2 a y (some v) ∧ Q v H2) : tDGet td ty σ H Q := h
theorem din {σ : L2.St} {H : Hp} {Q : VK} {td ty : TE} (h : ty σ H fun y H1 => td σ H1 fun x H2 => ∃ a o, x = .ref a ∧ DGet H2 a y o ∧ Q (.bl o.isSome) H2) : tDIn ty td σ H Q := h
theorem dget2 {σ : L2.St} {H : Hp} {Q : VK} {td ty tx : TE} (h : td σ H fun x H1 => ∃ a, x = .ref a ∧ IsD H1 a ∧ ty σ H1 fun y H2 => tx σ H2 fun z H3 => ∃ o, DGet H3 a y o ∧ Q (o.getD z) H3) : tDGet2 td ty tx σ H Q := h
/-! slots behind many stores -/
def LenOk (n : Nat) (σ : L2.St) : Prop := n < σ.length
theorem lenS {n m : Nat} {σ : L2.St} {x : Option V} (h : LenOk n σ) : LenOk n (σ.set m x) := by
  unfold LenOk at *
  rw [List.length_set]
  exact h
theorem lenB {n : Nat} {σ : L2.St} (h : Nat.ble (n + 1) σ.length = true) : LenOk n σ := Nat.le_of_ble_eq_true h
theorem gsE {n : Nat} {σ : L2.St} {x r : Option V} (h : LenOk n σ) (e : some x = some r) : (σ.set n x)[n]? = some r := by
  rw [List.getElem?_set_self h]
  exact e
theorem gsN {n m : Nat} {σ : L2.St} {x : Option V} {r : Option (Option V)} (h : Nat.beq m n = false) (e : σ[n]? = r) : (σ.set m x)[n]? = r := by
  rw [List.getElem?_set_ne (fun z => by rw [z, Nat.beq_refl] at h; cases h)]
  exact e
theorem isLeI {a b : Int} (h : a ≤ b) : a ≤ b := h
theorem cdiv {i j : Int} (h : decide (0 < j ∧ j < 1073741824) = true) : CDiv i j := of_decide_eq_true (p := 0 < j ∧ j < 1073741824) h
theorem cpow {i j : Int} (h : decide (0 ≤ j ∧ j ≤ 1000000 ∧ i.natAbs < 2 ^ 64) = true) : CPow i j := of_decide_eq_true (p := 0 ≤ j ∧ j ≤ 1000000 ∧ i.natAbs < 2 ^ 64) h
theorem gBd {n : Nat} {x : Int} (h : Bd n x) : Bd n x := h
theorem gSqT {K : PySem.W.Frag} {H : Hp} {a : Addr} {xs : List V} (h : SqT K H a xs) : SqT K H a xs := h
theorem notT {A B : Prop} (h : B) : if (!true) = true then A else B := h
theorem notF {A B : Prop} (h : A) : if (!false) = true then A else B := h
theorem isNe {α : Sort _} {a b : α} (h : a ≠ b) : a ≠ b := h
theorem cdivX {n : Nat} {i j : Int} (h1 : j ≠ 0) (h2 : Bd n j) (l : Nat.ble n 9000 = true) : CDivX i j := ⟨h1, Nat.lt_of_lt_of_le h2 (Nat.pow_le_pow_right (by decide) (Nat.le_of_ble_eq_true l))⟩
theorem isLe {a b : Nat} (h : a ≤ b) : a ≤ b := h
theorem isLtI {a b : Int} (h : a < b) : a < b := h
theorem isLt {a b : Nat} (h : a < b) : a < b := h
end R
/-! unpacking of a list -/
theorem pgU {X : Cx} (K : PySem.W.Frag) (n : Nat) {es : List Expr} {k : Nat} {pos : Pos} {t : TGs} (hc : X.calm = true) (h : PGs X es t) (hn : (assignEach es X.env).length = n := by rfl) (hst : (assignEach es X.env).findIdx? (·.1) = none := by rfl) (hK : X.K = K := by rfl) : PG X (.Tuple es k pos) (gUnl K n t) := by
  subst hK
  exact pg_unl hc h hn hst
theorem r_gunl {K : PySem.W.Frag} {σ : L2.St} {H : Hp} {n : Nat} {t : TGs} {a : Addr} {xs : List V} {Q : L2.St → Hp → Prop} (h1 : SqL K H a xs) (h2 : xs.length = n) (h : t xs σ H Q) : gUnl K n t (.ref a) σ H Q := ⟨a, xs, rfl, h1, h2, h⟩

/-! ### lists of tuples of ints -/
def tD (t : List Int) : PyData := .tuple (t.map PyData.int)
inductive Tps (K : PySem.W.Frag) (H : Hp) : List V → List (List Int) → Prop where
  | nil : Tps K H [] []
  | cons {a : Addr} {t : List Int} {vs : List V} {ts : List (List Int)} : SqT K H a (t.map V.int) → Tps K H vs ts → Tps K H (.ref a :: vs) (t :: ts)
theorem Tps.kt {K : PySem.W.Frag} {H H' : Hp} (s : KT K H H') : ∀ {vs : List V} {ts : List (List Int)}, Tps K H vs ts → Tps K H' vs ts
  | _, _, .nil => .nil
  | _, _, .cons h t => .cons (s _ _ h) (t.kt s)
theorem Tps.same {K : PySem.W.Frag} {H H' : Hp} {vs : List V} {ts : List (List Int)} (h : Tps K H vs ts) (s : Same H H') : Tps K H' vs ts := h.kt (same_kt s)
theorem Tps.len {K : PySem.W.Frag} {H : Hp} : ∀ {vs : List V} {ts : List (List Int)}, Tps K H vs ts → vs.length = ts.length
  | _, _, .nil => rfl
  | _, _, .cons _ t => by rw [List.length_cons, List.length_cons, t.len]
theorem Tps.app {K : PySem.W.Frag} {H : Hp} : ∀ {vs ws : List V} {ts us : List (List Int)}, Tps K H vs ts → Tps K H ws us → Tps K H (vs ++ ws) (ts ++ us)
  | _, _, _, _, .nil, h => h
  | _, _, _, _, .cons a t, h => .cons a (t.app h)
theorem Tps.snoc {K : PySem.W.Frag} {H : Hp} {vs : List V} {ts : List (List Int)} {a : Addr} {t : List Int} (h : Tps K H vs ts) (s : SqT K H a (t.map V.int)) : Tps K H (vs ++ [.ref a]) (ts ++ [t]) := h.app (.cons s .nil)
theorem Tps.at {K : PySem.W.Frag} {H : Hp} : ∀ {vs : List V} {ts : List (List Int)} {i : Nat} {x : V}, Tps K H vs ts → vs[i]? = some x → ∃ a t, x = .ref a ∧ ts[i]? = some t ∧ SqT K H a (t.map V.int)
  | _, _, _, _, .nil, h => by cases h
  | _, _, 0, _, .cons s t, h => by
    cases h
    exact ⟨_, _, rfl, rfl, s⟩
  | _, _, i + 1, _, .cons s t, h => t.at (i := i) h
theorem Tps.dp {K : PySem.W.Frag} {H : Hp} : ∀ {vs : List V} {ts : List (List Int)}, Tps K H vs ts → DpAll K H vs (ts.map tD)
  | _, _, .nil => .nil
  | _, _, .cons h t => .cons (.tup h (dp_ints _)) t.dp
theorem lay_tups : ∀ ts : List (List Int), PyData.canLayAll0 (ts.map tD) = true
  | [] => rfl
  | t :: ts => by
    rw [List.map_cons, PyData.canLayAll0, lay_tups ts]
    unfold tD
    rw [PyData.canLay0, lay_ints]
    rfl
theorem depth_tups : ∀ ts : List (List Int), PyData.depthAll (ts.map tD) ≤ 1
  | [] => by rw [List.map_nil, PyData.depthAll]; decide
  | t :: ts => by
    rw [List.map_cons, PyData.depthAll]
    unfold tD
    rw [PyData.depth, depth_ints]
    exact Nat.max_le.mpr ⟨by decide, depth_tups ts⟩
theorem shaped_tups (ts : List (List Int)) : SeqAt.shaped (.list (ts.map tD)) = true := by
  show (PyData.canLay0 (.list (ts.map tD)) && decide (PyData.depth (.list (ts.map tD)) ≤ 64)) = true
  rw [Bool.and_eq_true]
  refine ⟨by rw [PyData.canLay0]; exact lay_tups ts, decide_eq_true ?_⟩
  rw [PyData.depth]
  have := depth_tups ts
  omega
theorem shaped_tupsT (ts : List (List Int)) : SeqAt.shaped (.tuple (ts.map tD)) = true := by
  show (PyData.canLay0 (.tuple (ts.map tD)) && decide (PyData.depth (.tuple (ts.map tD)) ≤ 64)) = true
  rw [Bool.and_eq_true]
  refine ⟨by rw [PyData.canLay0]; exact lay_tups ts, decide_eq_true ?_⟩
  rw [PyData.depth]
  have := depth_tups ts
  omega
theorem eqvAll_tups : ∀ ts us : List (List Int), PyData.eqvAll (ts.map tD) (us.map tD) = decide (ts = us)
  | [], [] => by simp [PyData.eqvAll]
  | [], _ :: _ => by simp [PyData.eqvAll]
  | _ :: _, [] => by simp [PyData.eqvAll]
  | t :: ts, u :: us => by
    rw [List.map_cons, List.map_cons, PyData.eqvAll, eqvAll_tups ts us]
    unfold tD
    rw [R.eqB]
    by_cases h : t = u <;> simp [h]
theorem any_tups (t : List Int) : ∀ ts : List (List Int), (ts.map tD).any (fun z => PyData.eqv z (tD t)) = decide (t ∈ ts)
  | [] => by simp
  | u :: ts => by
    rw [List.map_cons, List.any_cons, any_tups t ts]
    have e : PyData.eqv (tD u) (tD t) = decide (u = t) := R.eqB
    rw [e]
    by_cases h : u = t
    · subst h
      simp
    · have h2 : ¬ t = u := fun z => h z.symm
      by_cases h3 : t ∈ ts <;> simp [h, h2, h3]
namespace R
theorem eqTps {K : PySem.W.Frag} {H : Hp} {Q : VK} {p q : Addr} {vs ws : List V} {ts us : List (List Int)} (h1 : SqL K H p vs) (t1 : Tps K H vs ts) (h2 : SqL K H q ws) (t2 : Tps K H ws us) (h : Q (.bl (decide (ts = us))) H) : rEqD K (.ref p) (.ref q) H Q := by
  refine ⟨_, _, .lst h1 t1.dp, .lst h2 t2.dp, shaped_tups _, shaped_tups _, ?_⟩
  rw [PyData.eqv, eqvAll_tups]
  exact h
theorem neTps {K : PySem.W.Frag} {H : Hp} {Q : VK} {p q : Addr} {vs ws : List V} {ts us : List (List Int)} (h1 : SqL K H p vs) (t1 : Tps K H vs ts) (h2 : SqL K H q ws) (t2 : Tps K H ws us) (h : Q (.bl (!decide (ts = us))) H) : rNeD K (.ref p) (.ref q) H Q := by
  refine ⟨_, _, .lst h1 t1.dp, .lst h2 t2.dp, shaped_tups _, shaped_tups _, ?_⟩
  rw [PyData.eqv, eqvAll_tups]
  exact h
theorem notInT {K : PySem.W.Frag} {H : Hp} {Q : VK} {p q : Addr} {vs : List V} {t : List Int} {ts : List (List Int)} (h1 : SqT K H p (t.map V.int)) (h2 : SqL K H q vs) (t2 : Tps K H vs ts) (h : Q (.bl (!decide (t ∈ ts))) H) : rNotInD K (.ref p) (.ref q) H Q := by
  refine ⟨_, _, .tup h1 (dp_ints _), .lst h2 t2.dp, shaped_intsT _, shaped_tups _, ?_⟩
  have e := any_tups t ts
  unfold tD at e
  rw [show (ts.map tD) = ts.map fun t => .tuple (t.map PyData.int) from rfl, e]
  exact h
theorem inT {K : PySem.W.Frag} {H : Hp} {Q : VK} {p q : Addr} {vs : List V} {t : List Int} {ts : List (List Int)} (h1 : SqT K H p (t.map V.int)) (h2 : SqL K H q vs) (t2 : Tps K H vs ts) (h : Q (.bl (decide (t ∈ ts))) H) : rInD K (.ref p) (.ref q) H Q := by
  refine ⟨_, _, .tup h1 (dp_ints _), .lst h2 t2.dp, shaped_intsT _, shaped_tups _, ?_⟩
  have e := any_tups t ts
  unfold tD at e
  rw [show (ts.map tD) = ts.map fun t => .tuple (t.map PyData.int) from rfl, e]
  exact h
end R
theorem room65 {k : Nat} {A : Around} (r : Room k A) : A.units + 65 < cLine := by
  have := r.un
  omega
theorem notInDQ {X : Cx} (K : PySem.W.Frag) (hu : X.A.units + 65 < cLine) (h : X.K = K := by rfl) : OpR X (compareOp .NotIn) (rNotInD K) := by
  subst h
  exact op_notInD hu
theorem inDQ {X : Cx} (K : PySem.W.Frag) (hu : X.A.units + 65 < cLine) (h : X.K = K := by rfl) : OpR X (compareOp .In) (rInD K) := by
  subst h
  exact op_inD hu

/-! ### [f x for x in .. if p x] -/
def rgI (lo : Int) (n : Nat) : List Int := (List.range n).map fun (t : Nat) => lo + (t : Int)
theorem rgI_succ (lo : Int) (n : Nat) : rgI lo (n + 1) = rgI lo n ++ [lo + (n : Int)] := by
  unfold rgI
  rw [List.range_succ, List.map_append]
  rfl
theorem rgI_len (lo : Int) (n : Nat) : (rgI lo n).length = n := by
  unfold rgI
  rw [List.length_map, List.length_range]
theorem mem_rgI {lo x : Int} {n : Nat} : x ∈ rgI lo n ↔ lo ≤ x ∧ x < lo + (n : Int) := by
  unfold rgI
  rw [List.mem_map]
  constructor
  · rintro ⟨t, ht, rfl⟩
    have := List.mem_range.mp ht
    omega
  · rintro ⟨h1, h2⟩
    exact ⟨(x - lo).toNat, List.mem_range.mpr (by omega), by omega⟩
theorem rgI_lt (lo : Int) (n : Nat) : (rgI lo n).Pairwise (· < ·) := by
  unfold rgI
  exact List.pairwise_map.mpr ((List.pairwise_lt_range (n := n)).imp fun h => by omega)
theorem lt_ext : ∀ {l m : List Int}, l.Pairwise (· < ·) → m.Pairwise (· < ·) → (∀ x, x ∈ l ↔ x ∈ m) → l = m
  | [], [], _, _, _ => rfl
  | [], b :: m, _, _, h => absurd ((h b).mpr List.mem_cons_self) (by simp)
  | a :: l, [], _, _, h => absurd ((h a).mp List.mem_cons_self) (by simp)
  | a :: l, b :: m, h1, h2, h => by
    obtain ⟨a1, a2⟩ := List.pairwise_cons.mp h1
    obtain ⟨b1, b2⟩ := List.pairwise_cons.mp h2
    have e : a = b := by
      rcases List.mem_cons.mp ((h a).mp List.mem_cons_self) with k | k
      · exact k
      · rcases List.mem_cons.mp ((h b).mpr List.mem_cons_self) with k2 | k2
        · exact k2.symm
        · have := a1 b k2
          have := b1 a k
          omega
    subst e
    rw [lt_ext a2 b2 fun x => ?_]
    constructor
    · intro hx
      rcases List.mem_cons.mp ((h x).mp (List.mem_cons_of_mem _ hx)) with k | k
      · have := a1 x hx
        omega
      · exact k
    · intro hx
      rcases List.mem_cons.mp ((h x).mpr (List.mem_cons_of_mem _ hx)) with k | k
      · have := b1 x hx
        omega
      · exact k
theorem le_nodup_lt {l : List Int} (h : l.Pairwise (· ≤ ·)) (n : l.Nodup) : l.Pairwise (· < ·) := by
  refine List.Pairwise.imp ?_ (h.and n)
  intro a b ⟨x, y⟩
  have : a ≠ b := y
  omega
namespace R
section
variable {K : PySem.W.Frag} {σ : L2.St} {H : Hp} {Q : VK} {g : TG} {tt : TT} {te : TE} {vs : List Nat}
theorem lcFR {lo : Int} {n : Nat} (p : Int → Bool) (f : Int → Int) (hn : n ≤ 100000)
    (hs : ∀ i H' (C : V → Hp → Prop) (E : Hp → Prop), i < n → Same H H' → (p (lo + i) = true → C (.int (f (lo + i))) H') → (p (lo + i) = false → E H') → g (.int (lo + i)) (wipe σ vs) H' fun σ2 H2 => wipe σ2 vs = wipe σ vs ∧ tt σ2 H2 fun k H3 => if k = true then te σ2 H3 C else E H3)
    (hq : ∀ H' D, H' D = some (.lst ((((rgI lo n).filter p).map f).map V.int)) → Same H H' → H D = none → Q (.ref D) H') : LcJ (Itr lo n) g tt te vs σ H Q := by
  intro D nD
  refine lc_range (lo := lo) (n := n) (fun i H' => H' D = some (.lst ((((rgI lo i).filter p).map f).map V.int)) ∧ Same H H') ⟨upd_same, same_upd nD⟩ (fun i H5 hi ⟨h1, h5⟩ => ?_) (fun H5 ⟨h1, h5⟩ => hq H5 D h1 h5 nD)
  refine hs i H5 _ _ hi h5 (fun e => ⟨_, h1, ?_, ?_, same_mut h5 nD⟩) (fun e => ⟨?_, h5⟩)
  · rw [List.length_map, List.length_map]
    have := List.length_filter_le p (rgI lo i)
    rw [rgI_len] at this
    exact Nat.lt_of_le_of_lt (Nat.le_trans this (by omega : i ≤ 100000)) (by decide)
  · rw [upd_same, rgI_succ, List.filter_append, List.filter_cons_of_pos (by exact e), List.map_append, List.map_append]
    rfl
  · rw [rgI_succ, List.filter_append, List.filter_cons_of_neg (by rw [e]; decide), List.filter_nil, List.append_nil]
    exact h1
theorem lcFL {a : Addr} {ns : List Int} (p : Int → Bool) (f : Int → Int) (hl : ns.length ≤ 100000) (hT : SqL K H a (ns.map V.int))
    (hs : ∀ n H' (C : V → Hp → Prop) (E : Hp → Prop), n ∈ ns → Same H H' → (p n = true → C (.int (f n)) H') → (p n = false → E H') → g (.int n) (wipe σ vs) H' fun σ2 H2 => wipe σ2 vs = wipe σ vs ∧ tt σ2 H2 fun k H3 => if k = true then te σ2 H3 C else E H3)
    (hq : ∀ H' D, H' D = some (.lst (((ns.filter p).map f).map V.int)) → Same H H' → H D = none → Q (.ref D) H') : LcJ (Itl K a) g tt te vs σ H Q := by
  intro D nD
  refine lc_list (K := K) (a := a) (xs := ns.map V.int) (fun i H' => H' D = some (.lst ((((ns.take i).filter p).map f).map V.int)) ∧ Same H H') ⟨upd_same, same_upd nD⟩ (fun i H' _ h => h.2.seq hT) (fun i x H5 hx ⟨h1, h5⟩ => ?_) (fun H5 ⟨h1, h5⟩ => ?_)
  · rw [List.getElem?_map] at hx
    cases hn : ns[i]? with
    | none =>
      rw [hn] at hx
      cases hx
    | some n =>
      rw [hn] at hx
      cases hx
      refine hs n H5 _ _ (List.mem_of_getElem? hn) h5 (fun e => ⟨_, h1, ?_, ?_, same_mut h5 nD⟩) (fun e => ⟨?_, h5⟩)
      · rw [List.length_map, List.length_map]
        have := List.length_filter_le p (ns.take i)
        rw [List.length_take] at this
        exact Nat.lt_of_le_of_lt (Nat.le_trans this (by omega : min i ns.length ≤ 100000)) (by decide)
      · rw [upd_same, List.take_add_one, hn, Option.toList_some, List.filter_append, List.filter_cons_of_pos (by exact e), List.map_append, List.map_append]
        rfl
      · rw [List.take_add_one, hn, Option.toList_some, List.filter_append, List.filter_cons_of_neg (by rw [e]; decide), List.filter_nil, List.append_nil]
        exact h1
  · rw [List.length_map, List.take_length] at h1
    exact hq H5 D h1 h5 nD
end
theorem yes {σ : L2.St} {H : Hp} {A B : Hp → Prop} (h : A H) : tYes σ H fun k H3 => if k = true then A H3 else B H3 := by
  unfold tYes
  show if true = true then A H else B H
  rw [if_pos rfl]
  exact h
theorem srt {K : PySem.W.Frag} {H : Hp} {Q : VK} {a : Addr} {ns : List Int} (h : SqL K H a (ns.map V.int)) (q : ∀ (ns' : List Int) H' p, ns'.Perm ns → ns'.Pairwise (· ≤ ·) → Same H H' → H p = none → H' p = some (.lst (ns'.map V.int)) → Q (.ref p) H') : rSortedI K [.ref a] H Q :=
  ⟨a, ns, rfl, h, fun ns' p pm s n => q ns' _ p pm s (same_upd n) n upd_same⟩
theorem eqInts {K : PySem.W.Frag} {H : Hp} {Q : VK} {p q : Addr} {ns ms : List Int} (h1 : SqL K H p (ns.map V.int)) (h2 : SqL K H q (ms.map V.int)) (h : Q (.bl (decide (ns = ms))) H) : rEqD K (.ref p) (.ref q) H Q := by
  refine ⟨_, _, .lst h1 (dp_ints ns), .lst h2 (dp_ints ms), shaped_ints ns, shaped_ints ms, ?_⟩
  have e : PyData.eqv (.list (ns.map PyData.int)) (.list (ms.map PyData.int)) = decide (ns = ms) := by
    have h := eqB (ns := ns) (ms := ms)
    rw [PyData.eqv] at h
    rw [PyData.eqv]
    exact h
  rw [e]
  exact h
theorem neInts {K : PySem.W.Frag} {H : Hp} {Q : VK} {p q : Addr} {ns ms : List Int} (h1 : SqL K H p (ns.map V.int)) (h2 : SqL K H q (ms.map V.int)) (h : Q (.bl (!decide (ns = ms))) H) : rNeD K (.ref p) (.ref q) H Q := by
  refine ⟨_, _, .lst h1 (dp_ints ns), .lst h2 (dp_ints ms), shaped_ints ns, shaped_ints ms, ?_⟩
  have e : PyData.eqv (.list (ns.map PyData.int)) (.list (ms.map PyData.int)) = decide (ns = ms) := by
    have h := eqB (ns := ns) (ms := ms)
    rw [PyData.eqv] at h
    rw [PyData.eqv]
    exact h
  rw [e]
  exact h
end R
theorem srtQ {X : Cx} (K : PySem.W.Frag) (h : X.K = K := by rfl) : CallR X (.builtin "sorted") (rSortedI K) := by
  subst h
  exact cr_sortedI

/-! ### lists of pairs of ints -/
inductive Pd (H : Hp) : List V → List (Int × Int) → Prop where
  | nil : Pd H [] []
  | cons {a : Addr} {p : Int × Int} {vs : List V} {ps : List (Int × Int)} : H a = some (.tup [.int p.1, .int p.2]) → Pd H vs ps → Pd H (.ref a :: vs) (p :: ps)
def pL (p : Int × Int) : List Int := [p.1, p.2]
theorem pL_inj {p q : Int × Int} (h : pL p = pL q) : p = q := by
  unfold pL at h
  injection h with h1 h2
  injection h2 with h2 _
  exact Prod.ext h1 h2
theorem Pd.mono {H H' : Hp} (s : ∀ b xs, H b = some (.tup xs) → H' b = some (.tup xs)) : ∀ {vs : List V} {ps : List (Int × Int)}, Pd H vs ps → Pd H' vs ps
  | _, _, .nil => .nil
  | _, _, .cons h t => .cons (s _ _ h) (t.mono s)
theorem Pd.same {H H' : Hp} {vs : List V} {ps : List (Int × Int)} (h : Pd H vs ps) (s : Same H H') : Pd H' vs ps := h.mono fun _ _ e => s _ _ e
theorem Pd.len {H : Hp} : ∀ {vs : List V} {ps : List (Int × Int)}, Pd H vs ps → vs.length = ps.length
  | _, _, .nil => rfl
  | _, _, .cons _ t => by rw [List.length_cons, List.length_cons, t.len]
theorem Pd.snoc {H : Hp} {a : Addr} {p : Int × Int} (s : H a = some (.tup [.int p.1, .int p.2])) : ∀ {vs : List V} {ps : List (Int × Int)}, Pd H vs ps → Pd H (vs ++ [.ref a]) (ps ++ [p])
  | _, _, .nil => .cons s .nil
  | _, _, .cons h t => .cons h (t.snoc s)
theorem Pd.tps {K : PySem.W.Frag} {H : Hp} : ∀ {vs : List V} {ps : List (Int × Int)}, Pd H vs ps → Tps K H vs (ps.map pL)
  | _, _, .nil => .nil
  | _, _, .cons h t => .cons (SqT.of h) t.tps
theorem Pd.off {H : Hp} {D : Addr} {xs ys : List V} {vs : List V} {ps : List (Int × Int)} (h : Pd H vs ps) (hD : H D = some (.lst xs)) : Pd (upd H D (.lst ys)) vs ps := h.mono fun b zs e => by
  rw [upd_ne (ne_of e hD (by intro z; cases z))]
  exact e
theorem map_pL_eq {ps qs : List (Int × Int)} : ps.map pL = qs.map pL ↔ ps = qs := by
  constructor
  · intro h
    induction ps generalizing qs with
    | nil =>
      cases qs with
      | nil => rfl
      | cons q qs => cases h
    | cons p ps ih =>
      cases qs with
      | nil => cases h
      | cons q qs =>
        injection h with h1 h2
        rw [pL_inj h1, ih h2]
  · rintro rfl
    rfl
theorem mem_pL {p : Int × Int} {ps : List (Int × Int)} : pL p ∈ ps.map pL ↔ p ∈ ps := by
  rw [List.mem_map]
  constructor
  · rintro ⟨q, hq, e⟩
    rw [← pL_inj e]
    exact hq
  · intro h
    exact ⟨p, h, rfl⟩
/-- the order of pairs -/
def ltp (p q : Int × Int) : Prop := p.1 < q.1 ∨ (p.1 = q.1 ∧ p.2 < q.2)
theorem ltp_ext : ∀ {l m : List (Int × Int)}, l.Pairwise ltp → m.Pairwise ltp → (∀ x, x ∈ l ↔ x ∈ m) → l = m
  | [], [], _, _, _ => rfl
  | [], b :: m, _, _, h => absurd ((h b).mpr List.mem_cons_self) (by simp)
  | a :: l, [], _, _, h => absurd ((h a).mp List.mem_cons_self) (by simp)
  | a :: l, b :: m, h1, h2, h => by
    obtain ⟨a1, a2⟩ := List.pairwise_cons.mp h1
    obtain ⟨b1, b2⟩ := List.pairwise_cons.mp h2
    have e : a = b := by
      rcases List.mem_cons.mp ((h a).mp List.mem_cons_self) with k | k
      · exact k
      · rcases List.mem_cons.mp ((h b).mpr List.mem_cons_self) with k2 | k2
        · exact k2.symm
        · have x1 := a1 b k2
          have x2 := b1 a k
          unfold ltp at x1 x2
          omega
    subst e
    rw [ltp_ext a2 b2 fun x => ?_]
    constructor
    · intro hx
      rcases List.mem_cons.mp ((h x).mp (List.mem_cons_of_mem _ hx)) with k | k
      · have x1 := a1 x hx
        rw [k] at x1
        unfold ltp at x1
        omega
      · exact k
    · intro hx
      rcases List.mem_cons.mp ((h x).mpr (List.mem_cons_of_mem _ hx)) with k | k
      · have x1 := b1 x hx
        rw [k] at x1
        unfold ltp at x1
        omega
      · exact k
def kH (H : Hp) : V → Int × Int
  | .ref a => match H a with
    | some (.tup [.int x, .int y]) => (x, y)
    | _ => (0, 0)
  | _ => (0, 0)
theorem kH_at {H : Hp} {a : Addr} {x y : Int} (h : H a = some (.tup [.int x, .int y])) : kH H (.ref a) = (x, y) := by
  show (match H a with | some (.tup [.int x, .int y]) => (x, y) | _ => ((0 : Int), (0 : Int))) = (x, y)
  rw [h]
theorem Pd.keys {H : Hp} : ∀ {vs : List V} {ps : List (Int × Int)}, Pd H vs ps → vs.map (kH H) = ps
  | _, _, .nil => rfl
  | _, _, .cons h t => by rw [List.map_cons, kH_at h, t.keys]
theorem Pd.mem {H : Hp} : ∀ {vs : List V} {ps : List (Int × Int)}, Pd H vs ps → ∀ x ∈ vs, ∃ t, x = V.ref t ∧ H t = some (.tup [.int (kH H x).1, .int (kH H x).2])
  | _, _, .nil, x, h => by cases h
  | _, _, .cons h t, x, hx => by
    rcases List.mem_cons.mp hx with rfl | hx
    · exact ⟨_, rfl, by rw [kH_at h]; exact h⟩
    · exact t.mem x hx
theorem pd_of {H : Hp} : ∀ {vs : List V}, (∀ x ∈ vs, ∃ t, x = V.ref t ∧ H t = some (.tup [.int (kH H x).1, .int (kH H x).2])) → Pd H vs (vs.map (kH H))
  | [], _ => .nil
  | v :: vs, h => by
    obtain ⟨t, rfl, ht⟩ := h v List.mem_cons_self
    exact .cons ht (pd_of fun x hx => h x (List.mem_cons_of_mem _ hx))
theorem kp_seqTL {K : PySem.W.Frag} {H H' : Hp} {p b : Addr} {ys xs : List V} (f : Kp p H H') (hp : H p = some (.lst ys)) (h : SqT K H b xs) : SqT K H' b xs := by
  rcases h with (h | ⟨o, h⟩) | h
  · refine .inl (.inl (f _ _ ?_ h))
    rintro rfl
    rw [hp] at h
    cases h
  · refine .inl (.inr ⟨o, f _ _ ?_ h⟩)
    rintro rfl
    rw [hp] at h
    cases h
  · exact .inr h
namespace R
theorem srtP {K : PySem.W.Frag} {H : Hp} {Q : VK} {a : Addr} {vs : List V} {ps : List (Int × Int)} (h : SqL K H a vs) (hp : Pd H vs ps) (hn : ps.Nodup)
    (q : ∀ ws qs H' p, Pd H' ws qs → qs.Perm ps → qs.Pairwise ltp → Same H H' → H p = none → H' p = some (.lst ws) → Q (.ref p) H') : rSortedPO K [.ref a] H Q := by
  refine ⟨a, vs, kH H, rfl, h, hp.mem, fun ys p srt stb np => ?_⟩
  have pm : ys.Perm vs := stb.perm
  have hy := pd_of (H := H) (vs := ys) fun x hx => hp.mem x (pm.mem_iff.mp hx)
  have pq : (ys.map (kH H)).Perm ps := by
    rw [← hp.keys]
    exact pm.map _
  refine q ys (ys.map (kH H)) _ p (hy.same (same_upd np)) pq ?_ (same_upd np) np upd_same
  have hnd := pq.nodup_iff.mpr hn
  have h2 : (ys.map (kH H)).Pairwise (fun x y => SrtO.lexB y x = false) := List.pairwise_map.mpr srt
  refine List.Pairwise.imp ?_ (h2.and hnd)
  intro x y ⟨h3, h4⟩
  have h5 := SrtO.lexB_no.mp h3
  unfold ltp
  by_cases e1 : x.1 = y.1
  · by_cases e2 : x.2 = y.2
    · exact absurd (Prod.ext e1 e2) h4
    · omega
  · omega
end R
theorem srtPQ {X : Cx} (K : PySem.W.Frag) (h : X.K = K := by rfl) : CallR X (.builtin "sorted") (rSortedPO K) := by
  subst h
  exact cr_sortedPO

/-! ### loops over two fors -/
theorem out_list {K : PySem.W.Frag} {a : Addr} {xs : List V} {F : V → Hp → (Hp → Prop) → Prop} {H0 : Hp} {Qd : Hp → Prop} (Pv : Nat → Hp → Prop) (h0 : Pv 0 H0) (hl : ∀ i H, i ≤ xs.length → Pv i H → SqL K H a xs)
    (hs : ∀ i x H, xs[i]? = some x → Pv i H → F x H (Pv (i + 1))) (hd : ∀ H, Pv xs.length H → Qd H) :
    ∃ W : Nat → Nat → Hp → Prop, (∃ m, W 0 m H0) ∧ ∀ i m H, W i m H → ((Itl K a).stop i H ∧ Qd H) ∨ ((Itl K a).go i H ∧ ∃ Nx : Hp → Prop, (∀ H', Nx H' → ∃ m', m' < m ∧ W (i + 1) m' H') ∧ ∀ x H', (Itl K a).yld i H x H' → F x H' Nx) := by
  refine ⟨fun i m H => m = xs.length - i ∧ i ≤ xs.length ∧ Pv i H, ⟨xs.length, by simp, Nat.zero_le _, h0⟩, ?_⟩
  rintro i m H ⟨rfl, hi, p⟩
  have q := hl i H hi p
  by_cases hlt : i < xs.length
  · refine .inr ⟨⟨xs, xs[i], q, by simp [hlt]⟩, Pv (i + 1), fun H' p' => ⟨xs.length - (i + 1), by omega, rfl, hlt, p'⟩, fun x H' y => ?_⟩
    obtain ⟨e, y⟩ := y
    subst e
    exact hs i x _ (y xs q) p
  · have e : i = xs.length := by omega
    subst e
    exact .inl ⟨⟨xs, q, Nat.le_refl _⟩, hd H p⟩
theorem out_range {lo : Int} {n : Nat} {F : V → Hp → (Hp → Prop) → Prop} {H0 : Hp} {Qd : Hp → Prop} (Pv : Nat → Hp → Prop) (h0 : Pv 0 H0)
    (hs : ∀ i H, i < n → Pv i H → F (.int (lo + (i : Nat))) H (Pv (i + 1))) (hd : ∀ H, Pv n H → Qd H) :
    ∃ W : Nat → Nat → Hp → Prop, (∃ m, W 0 m H0) ∧ ∀ i m H, W i m H → ((Itr lo n).stop i H ∧ Qd H) ∨ ((Itr lo n).go i H ∧ ∃ Nx : Hp → Prop, (∀ H', Nx H' → ∃ m', m' < m ∧ W (i + 1) m' H') ∧ ∀ x H', (Itr lo n).yld i H x H' → F x H' Nx) := by
  refine ⟨fun i m H => m = n - i ∧ i ≤ n ∧ Pv i H, ⟨n, by simp, Nat.zero_le _, h0⟩, ?_⟩
  rintro i m H ⟨rfl, hi, p⟩
  by_cases hlt : i < n
  · refine .inr ⟨hlt, Pv (i + 1), fun H' p' => ⟨n - (i + 1), by omega, rfl, hlt, p'⟩, fun x H' y => ?_⟩
    obtain ⟨e, y⟩ := y
    subst e y
    exact hs i _ hlt p
  · have e : i = n := by omega
    subst e
    exact .inl ⟨Nat.le_refl _, hd H p⟩

/-! ### whole roots -/
section
variable {X : Cx}
theorem cr_isqrt : CallR X (.builtin "math.isqrt") (fun vs H Q => ∃ i : Int, vs = [.int i] ∧ 0 ≤ i ∧ i.natAbs < 2 ^ 13000 ∧ Q (.int ((Float64.isqrt i.toNat : Nat) : Int)) H) := by
  intro pins s σ H vs us Q I r h
  obtain ⟨i, rfl, h0, h1, q⟩ := h
  obtain ⟨u, rfl, t, rfl⟩ := vals1 r
  have hl : i.toNat.log2 < 13000 := PySem.Flt.log2_lt_of (by decide) (by omega)
  exact call_function_meets PySem.W.MGF.kind_isqrt PySem.W.MGF.plain_isqrt PySem.W.MGF.entry_isqrt (PySem.W.MGF.args_isqrt _) (PySem.W.mg_run_isqrt i t (by omega) (by omega) (by omega)).meets ⟨.int _, H, I.tok _, ⟨_, rfl⟩, q⟩
end
def rootI (n : Int) : Int := ((Float64.isqrt n.toNat : Nat) : Int)
theorem rootI_spec {n : Int} (h : 0 ≤ n) : 0 ≤ rootI n ∧ rootI n * rootI n ≤ n ∧ n < (rootI n + 1) * (rootI n + 1) := by
  obtain ⟨k, rfl⟩ := Int.eq_ofNat_of_zero_le h
  have e := Float64.isqrt_spec k
  unfold rootI
  have e2 : Int.toNat (k : Int) = k := rfl
  rw [e2]
  generalize Float64.isqrt k = m at e ⊢
  refine ⟨Int.natCast_nonneg m, ?_, ?_⟩
  · exact_mod_cast e.1
  · exact_mod_cast e.2
theorem rootI_lt {n : Int} {b : Nat} (h : 0 ≤ n) (hb : n.natAbs < 2 ^ b) : (rootI n).natAbs < 2 ^ b := by
  obtain ⟨h0, h1, h2⟩ := rootI_spec h
  have h3 : rootI n ≤ n := by
    by_cases e : rootI n = 0
    · omega
    · have h4 : 1 * rootI n ≤ rootI n * rootI n := Int.mul_le_mul_of_nonneg_right (by omega) h0
      omega
  omega
/-! ### common measures -/
def gI (a b : Int) : Int := ((Nat.gcd a.natAbs b.natAbs : Nat) : Int)
theorem gI_nn (a b : Int) : 0 ≤ gI a b := Int.natCast_nonneg _
theorem gI_lt {a b : Int} {B : Nat} (ha : a.natAbs < B) (hb : b.natAbs < B) : (gI a b).natAbs < B := by
  unfold gI
  rw [Int.natAbs_natCast]
  by_cases h : a.natAbs = 0
  · rw [h, Nat.gcd_zero_left]
    exact hb
  · exact Nat.lt_of_le_of_lt (Nat.gcd_le_left _ (by omega)) ha
def gL (ns : List Int) : Int := ns.foldl gI 0
theorem gL_take {ns : List Int} {i : Nat} {x : Int} (h : ns[i]? = some x) : gL (ns.take (i + 1)) = gI (gL (ns.take i)) x := by
  unfold gL
  rw [List.take_add_one, h, List.foldl_append]
  rfl
/-- one step of the walk of measures: what // and the rest are -/
theorem fd_rest {g r : Int} (h : r ≠ 0) : (g - g.fdiv r * r).natAbs < r.natAbs ∧ (0 < r → 0 ≤ g - g.fdiv r * r) ∧ (r < 0 → g - g.fdiv r * r ≤ 0) := by
  have e : g - g.fdiv r * r = g.fmod r := by
    rw [Int.fmod_def, Int.mul_comm]
  rw [e]
  by_cases hr : 0 < r
  · have h1 := Int.fmod_nonneg_of_pos g hr
    have h2 := Int.fmod_lt_of_pos g hr
    refine ⟨by omega, fun _ => h1, fun _ => by omega⟩
  · have h1 := Int.fmod_nonneg_of_pos (-g) (b := -r) (by omega)
    have h2 := Int.fmod_lt_of_pos (-g) (b := -r) (by omega)
    rw [Int.neg_fmod_neg] at h1 h2
    refine ⟨by omega, fun _ => by omega, fun _ => by omega⟩
theorem gcd_step (g q r : Int) : Nat.gcd r.natAbs (g - q * r).natAbs = Nat.gcd g.natAbs r.natAbs := by
  have e1 : Int.gcd r (g - q * r) = Int.gcd r g := by
    rw [Int.sub_eq_add_neg, ← Int.neg_mul]
    exact Int.gcd_add_mul_right_right ..
  have e2 : Int.gcd r g = Int.gcd g r := Int.gcd_comm r g
  exact e1.trans e2
theorem step_lt {g rest u ru q r B : Nat} (hg : g = q * rest + r) (h : ru * g + u * rest ≤ B) : (u + q * ru) * rest + ru * r ≤ B := by
  have e : (u + q * ru) * rest + ru * r = ru * g + u * rest := by
    rw [hg, Nat.add_mul, Nat.mul_add, Nat.mul_comm q ru, Nat.mul_assoc]
    omega
  omega
/-- the state of bezout's walk -/
def Bz (a b g u v r ru rv : Int) : Prop := u * a + v * b = g ∧ ru * a + rv * b = r ∧ (((Nat.gcd g.natAbs r.natAbs : Nat) : Int) = gI a b ∧ u.natAbs ≤ a.natAbs + 2 * b.natAbs + 1 ∧ v.natAbs ≤ a.natAbs + 2 * b.natAbs + 1) ∧
  ((g = a ∧ r = b ∧ u = 1 ∧ v = 0 ∧ ru = 0 ∧ rv = 1) ∨
    (((0 ≤ g ∧ 0 ≤ r) ∨ (g ≤ 0 ∧ r ≤ 0)) ∧ g.natAbs ≤ b.natAbs ∧ r.natAbs < g.natAbs ∧
      ru.natAbs * g.natAbs + u.natAbs * r.natAbs ≤ a.natAbs + 2 * b.natAbs ∧ rv.natAbs * g.natAbs + v.natAbs * r.natAbs ≤ a.natAbs + 2 * b.natAbs))
theorem same_div {g r : Int} (h : (0 ≤ g ∧ 0 < r) ∨ (g ≤ 0 ∧ r < 0)) : g.natAbs = (g.fdiv r).natAbs * r.natAbs + (g - g.fdiv r * r).natAbs := by
  have hr : r ≠ 0 := by omega
  obtain ⟨h1, h2, h3⟩ := fd_rest (g := g) hr
  have hq : 0 ≤ g.fdiv r := by
    rcases h with ⟨a, b⟩ | ⟨a, b⟩
    · exact Int.fdiv_nonneg a (by omega)
    · rw [← Int.neg_fdiv_neg]
      exact Int.fdiv_nonneg (by omega) (by omega)
  obtain ⟨q, e⟩ := Int.eq_ofNat_of_zero_le hq
  rw [e] at h2 h3 ⊢
  rcases h with ⟨a, b⟩ | ⟨a, b⟩
  · have k := h2 b
    have z : g = (q : Int) * r + (g - (q : Int) * r) := by omega
    obtain ⟨r', rfl⟩ := Int.eq_ofNat_of_zero_le (show 0 ≤ r by omega)
    have e2 : ((q * r' : Nat) : Int) = (q : Int) * (r' : Int) := Int.natCast_mul q r'
    rw [Int.natAbs_natCast, Int.natAbs_natCast]
    rw [← e2] at k ⊢
    omega
  · have k := h3 b
    obtain ⟨r', hr'⟩ := Int.eq_ofNat_of_zero_le (show 0 ≤ -r by omega)
    have er : r = -(r' : Int) := by omega
    subst er
    have e2 : ((q * r' : Nat) : Int) = (q : Int) * (r' : Int) := Int.natCast_mul q r'
    rw [Int.mul_neg, ← e2] at k ⊢
    rw [Int.natAbs_natCast, Int.natAbs_neg, Int.natAbs_natCast]
    omega
theorem abs_sub_mul (u q ru : Int) : (u - q * ru).natAbs ≤ u.natAbs + q.natAbs * ru.natAbs := by
  rw [← Int.natAbs_mul]
  omega
theorem natAbs_tri {g q r : Int} (k : (g - q).natAbs < r.natAbs) : q.natAbs ≤ g.natAbs + r.natAbs := by omega
theorem bz_q {g r : Int} (hr : r ≠ 0) : (g.fdiv r).natAbs ≤ g.natAbs + 1 ∧ (g.fdiv r).natAbs * r.natAbs ≤ g.natAbs + r.natAbs := by
  obtain ⟨k1, _, _⟩ := fd_rest (g := g) hr
  have z2 : (g.fdiv r).natAbs * r.natAbs ≤ g.natAbs + r.natAbs := by
    rw [← Int.natAbs_mul]
    exact natAbs_tri k1
  have r1 : 1 ≤ r.natAbs := by omega
  clear k1 hr
  refine ⟨?_, z2⟩
  generalize (g.fdiv r).natAbs = q at *
  generalize g.natAbs = G at *
  generalize r.natAbs = R at *
  by_cases z : q ≤ G + 1
  · exact z
  · have z4 : (G + 2) * R ≤ q * R := Nat.mul_le_mul_right _ (by omega)
    have z5 : G * 1 ≤ G * R := Nat.mul_le_mul_left _ r1
    rw [Nat.add_mul] at z4
    omega
theorem bz_le {A B G R U W q : Nat} (z3 : q ≤ G + 1) (e2 : G ≤ B) (e3 : R < G) (e4 : U * G + W * R ≤ A + 2 * B) : q ≤ A + B + 1 ∧ R ≤ B ∧ U ≤ A + 2 * B + 1 := by
  have z4 : U * 1 ≤ U * G := Nat.mul_le_mul_left _ (by omega)
  exact ⟨by omega, by omega, by omega⟩
theorem Bz.size {a b g u v r ru rv : Int} (h : Bz a b g u v r ru rv) (hr : r ≠ 0) : (g.fdiv r).natAbs ≤ a.natAbs + b.natAbs + 1 ∧ r.natAbs ≤ b.natAbs ∧ ru.natAbs ≤ a.natAbs + 2 * b.natAbs + 1 ∧ rv.natAbs ≤ a.natAbs + 2 * b.natAbs + 1 := by
  obtain ⟨h1, h2, h3, h4⟩ := h
  obtain ⟨z3, z2⟩ := bz_q (g := g) hr
  clear h1 h2 h3
  rcases h4 with ⟨e1, e2, e3, e4, e5, e6⟩ | ⟨e1, e2, e3, e4, e5⟩
  · subst e1 e2 e5 e6
    clear z2 hr e3 e4
    generalize (g.fdiv r).natAbs = q at *
    generalize g.natAbs = G at *
    generalize r.natAbs = R at *
    exact ⟨by omega, Nat.le_refl _, Nat.zero_le _, by show 1 ≤ _; omega⟩
  · obtain ⟨q1, q2, q3⟩ := bz_le z3 e2 e3 e4
    exact ⟨q1, q2, q3, (bz_le z3 e2 e3 e5).2.2⟩
theorem bz_lin (u v a b ru rv q : Int) : (u - q * ru) * a + (v - q * rv) * b = u * a + v * b - q * (ru * a + rv * b) := by
  rw [Int.sub_mul, Int.sub_mul, Int.mul_add, Int.mul_assoc, Int.mul_assoc]
  omega
theorem bz_sg {g r : Int} (hr : r ≠ 0) (h : (0 ≤ g ∧ 0 ≤ r) ∨ (g ≤ 0 ∧ r ≤ 0)) : (0 ≤ g ∧ 0 < r) ∨ (g ≤ 0 ∧ r < 0) := by omega
theorem bz_first {g r : Int} (hr : r ≠ 0) : (0 - g.fdiv r * 1).natAbs * r.natAbs + Int.natAbs 1 * (g - g.fdiv r * r).natAbs ≤ g.natAbs + 2 * r.natAbs := by
  obtain ⟨_, z2⟩ := bz_q (g := g) hr
  obtain ⟨k1, _, _⟩ := fd_rest (g := g) hr
  have z : (0 - g.fdiv r * 1).natAbs = (g.fdiv r).natAbs := by omega
  rw [z, show Int.natAbs 1 = 1 from rfl, Nat.one_mul]
  generalize (g.fdiv r).natAbs * r.natAbs = Y at *
  generalize (g - g.fdiv r * r).natAbs = Z at *
  generalize g.natAbs = G at *
  generalize r.natAbs = R at *
  clear z hr
  omega
theorem Bz.step {a b g u v r ru rv : Int} (h : Bz a b g u v r ru rv) (hr : r ≠ 0) : Bz a b r ru rv (g - g.fdiv r * r) (u - g.fdiv r * ru) (v - g.fdiv r * rv) := by
  have sz := h.size hr
  obtain ⟨h1, h2, h3, h4⟩ := h
  obtain ⟨k1, k2, k3⟩ := fd_rest (g := g) hr
  refine ⟨h2, ?_, ⟨by rw [gcd_step]; exact h3.1, sz.2.2⟩, .inr ⟨?_, ?_, k1, ?_, ?_⟩⟩
  · rw [bz_lin, h1, h2]
  · clear h1 h2 h3 h4 sz k1
    by_cases z : 0 < r
    · exact .inl ⟨Int.le_of_lt z, k2 z⟩
    · exact .inr ⟨Int.not_lt.mp z, k3 (by omega)⟩
  · rcases h4 with ⟨e1, e2, _⟩ | ⟨_, e2, e3, _⟩
    · rw [e2]
      exact Nat.le_refl _
    · exact Nat.le_of_lt (Nat.lt_of_lt_of_le e3 e2)
  · rcases h4 with ⟨e1, e2, e3, e4, e5, e6⟩ | ⟨e1, e2, e3, e4, e5⟩
    · clear h1 h2 h3 sz k1 k2 k3 e1 e4 e6 hr
      rw [e3, e5, e2]
      simp
      omega
    · exact Nat.le_trans (Nat.add_le_add_right (Nat.mul_le_mul_right _ (abs_sub_mul u (g.fdiv r) ru)) _) (step_lt (same_div (bz_sg hr e1)) e4)
  · rcases h4 with ⟨e1, e2, e3, e4, e5, e6⟩ | ⟨e1, e2, e3, e4, e5⟩
    · rw [e4, e6, ← e1, ← e2]
      exact bz_first hr
    · exact Nat.le_trans (Nat.add_le_add_right (Nat.mul_le_mul_right _ (abs_sub_mul v (g.fdiv r) rv)) _) (step_lt (same_div (bz_sg hr e1)) e5)

/-! ### the law's own root -/
theorem rootI_uniq {n r : Int} (h : 0 ≤ n) (h0 : 0 ≤ r) (h1 : r * r ≤ n) (h2 : n < (r + 1) * (r + 1)) : r = rootI n := by
  obtain ⟨k0, k1, k2⟩ := rootI_spec h
  generalize rootI n = s at k0 k1 k2 ⊢
  by_cases a : r < s
  · have z : (r + 1) * (r + 1) ≤ s * s := Int.mul_le_mul (by omega) (by omega) (by omega) (by omega)
    omega
  · by_cases b : s < r
    · have z : (s + 1) * (s + 1) ≤ r * r := Int.mul_le_mul (by omega) (by omega) (by omega) (by omega)
      omega
    · omega
theorem half_step {low high n : Int} {i : Nat} (h : low + 1 < high) (hi : (high - low - 1) * 2 ^ i ≤ n) : ((low + high) / 2 - low - 1) * 2 ^ (i + 1) ≤ n ∧ (high - (low + high) / 2 - 1) * 2 ^ (i + 1) ≤ n ∧ low < (low + high) / 2 ∧ (low + high) / 2 < high := by
  have e : (2 : Int) ^ (i + 1) = 2 * 2 ^ i := by rw [Int.pow_succ, Int.mul_comm]
  have p0 : (0 : Int) < 2 ^ i := Int.pow_pos (by decide)
  rw [e]
  generalize (2 : Int) ^ i = B at hi p0 ⊢
  have m1 : (low + high) / 2 - low - 1 ≤ (high - low - 1) / 2 := by omega
  have m2 : high - (low + high) / 2 - 1 ≤ (high - low - 1) / 2 := by omega
  have m3 : 2 * ((high - low - 1) / 2) ≤ high - low - 1 := by omega
  refine ⟨?_, ?_, by omega, by omega⟩
  · have a1 : ((low + high) / 2 - low - 1) * (2 * B) = (2 * ((low + high) / 2 - low - 1)) * B := by grind
    have a2 : (2 * ((low + high) / 2 - low - 1)) * B ≤ (high - low - 1) * B := Int.mul_le_mul_of_nonneg_right (by omega) (by omega)
    omega
  · have a1 : (high - (low + high) / 2 - 1) * (2 * B) = (2 * (high - (low + high) / 2 - 1)) * B := by grind
    have a2 : (2 * (high - (low + high) / 2 - 1)) * B ≤ (high - low - 1) * B := Int.mul_le_mul_of_nonneg_right (by omega) (by omega)
    omega

/-! ### continued fractions -/
def partI (p q root : Int) : Int := if 0 < q then (p + root).fdiv q else (p + root + 1).fdiv q
def nxt (d root : Int) (s : Int × Int) : Int × Int := (partI s.1 s.2 root * s.2 - s.1, (d - (partI s.1 s.2 root * s.2 - s.1) * (partI s.1 s.2 root * s.2 - s.1)).fdiv s.2)
def cf (d root : Int) (s : Int × Int) : Nat → Int × Int
  | 0 => s
  | k + 1 => nxt d root (cf d root s k)
def cfa (d : Int) (s : Int × Int) (i : Nat) : Int := partI (cf d (rootI d) s i).1 (cf d (rootI d) s i).2 (rootI d)
/-- what the walk of expand wants -/
def ExOk (p q d : Int) (n j : Nat) : Prop := 0 ≤ d ∧ d < 2 ^ 60 ∧ rootI d * rootI d ≠ d ∧ q ≠ 0 ∧ (d - p * p).fmod q = 0 ∧ j < n ∧ n ≤ 100000 ∧ cf d (rootI d) (p, q) n = cf d (rootI d) (p, q) j ∧
  (∀ a b, a < b → b < n → cf d (rootI d) (p, q) a ≠ cf d (rootI d) (p, q) b) ∧ ∀ i, i ≤ n → (cf d (rootI d) (p, q) i).1.natAbs < 2 ^ 60 ∧ (cf d (rootI d) (p, q) i).2.natAbs < 2 ^ 60 ∧ (cf d (rootI d) (p, q) i).2 ≠ 0
def ckey (s : Int × Int) : List Key := [.inl s.1, .inl s.2]
theorem ckey_inj {s t : Int × Int} (h : ckey s = ckey t) : s = t := by
  unfold ckey at h
  injection h with h1 h2
  injection h2 with h2 _
  injection h1 with h1
  injection h2 with h2
  exact Prod.ext h1 h2
def ckv (f : Nat → Int × Int) (n : Nat) : List (List Key × V) := (List.range n).map fun i => (ckey (f i), V.int (i : Int))
theorem ckv_succ (f : Nat → Int × Int) (n : Nat) : ckv f (n + 1) = ckv f n ++ [(ckey (f n), V.int (n : Int))] := by
  unfold ckv
  rw [List.range_succ, List.map_append]
  rfl
theorem ckv_len (f : Nat → Int × Int) (n : Nat) : (ckv f n).length = n := by
  unfold ckv
  rw [List.length_map, List.length_range]
theorem valV_app {κ : Type} [DecidableEq κ] (xs : List (κ × V)) (k : κ) (v : V) (k' : κ) : valV (xs ++ [(k, v)]) k' = (match valV xs k' with | some z => some z | none => if k = k' then some v else none) := by
  unfold valV
  rw [List.find?_append]
  cases h : xs.find? fun kv => decide (kv.1 = k') with
  | some z => rfl
  | none =>
    by_cases e : k = k'
    · simp [e]
    · simp [e]
theorem ckv_none {f : Nat → Int × Int} : ∀ {n : Nat} {s : Int × Int}, (∀ i, i < n → f i ≠ s) → valV (ckv f n) (ckey s) = none
  | 0, _, _ => rfl
  | n + 1, s, h => by
    rw [ckv_succ, valV_app, ckv_none fun i hi => h i (by omega)]
    exact if_neg fun e => h n (by omega) (ckey_inj e)
theorem ckv_some {f : Nat → Int × Int} {s : Int × Int} {j : Nat} (hj : f j = s) : ∀ {n : Nat}, j < n → (∀ i, i < j → f i ≠ s) → valV (ckv f n) (ckey s) = some (.int (j : Int))
  | 0, h, _ => absurd h (by omega)
  | n + 1, h, k => by
    rw [ckv_succ, valV_app]
    by_cases e : j < n
    · rw [ckv_some hj e k]
    · have e1 : j = n := by omega
      subst e1
      rw [ckv_none k]
      exact if_pos (congrArg ckey hj)
theorem ckv_put {f : Nat → Int × Int} {n : Nat} (h : ∀ i, i < n → f i ≠ f n) : putK (ckv f n) (ckey (f n)) (.int (n : Int)) = ckv f (n + 1) := by
  unfold putK
  rw [valV_any, ckv_none h, ckv_succ]
  exact if_neg Bool.false_ne_true
/-! ### reduced pairs -/
structure Red (d root P Q : Int) : Prop where
  q0 : 0 < Q
  p1 : P ≤ root
  lo : root - P < Q
  hi : Q ≤ root + P
  dv : Q ∣ d - P * P
theorem partI_pos {p q root : Int} (h : 0 < q) : partI p q root = (p + root) / q := by
  unfold partI
  rw [if_pos h, Int.fdiv_eq_ediv_of_nonneg _ (by omega)]
theorem nxt_exact {d root P Q : Int} (h : Q ≠ 0) (dv : Q ∣ d - P * P) : (nxt d root (P, Q)).2 * Q = d - (nxt d root (P, Q)).1 * (nxt d root (P, Q)).1 := by
  obtain ⟨c, hc⟩ := dv
  unfold nxt
  show (d - (partI P Q root * Q - P) * (partI P Q root * Q - P)).fdiv Q * Q = d - (partI P Q root * Q - P) * (partI P Q root * Q - P)
  generalize partI P Q root = a
  refine Int.fdiv_mul_cancel_of_fmod_eq_zero (Int.fmod_eq_zero_of_dvd ⟨c - a * a * Q + 2 * a * P, ?_⟩)
  grind
theorem Red.step {d root P Q : Int} (r0 : 0 ≤ root) (h1 : root * root < d) (h2 : d < (root + 1) * (root + 1)) (R : Red d root P Q) : Red d root (nxt d root (P, Q)).1 (nxt d root (P, Q)).2 := by
  have ex := nxt_exact (root := root) (Int.ne_of_gt R.q0) R.dv
  obtain ⟨q0, p1, lo, hi, dv⟩ := R
  have e1 : (nxt d root (P, Q)).1 = (P + root) / Q * Q - P := by
    unfold nxt
    show partI P Q root * Q - P = _
    rw [partI_pos q0]
  generalize (nxt d root (P, Q)).1 = P' at ex e1 ⊢
  generalize (nxt d root (P, Q)).2 = Q' at ex ⊢
  have a1 : (P + root) / Q * Q ≤ P + root := Int.ediv_mul_le _ (by omega)
  have a2 : P + root < (P + root) / Q * Q + Q := by
    have z := Int.lt_ediv_add_one_mul_self (P + root) q0
    rw [Int.add_mul, Int.one_mul] at z
    exact z
  have a3 : 1 ≤ (P + root) / Q := by
    have z : 1 * Q ≤ P + root := by omega
    exact (Int.le_ediv_iff_mul_le q0).mpr z
  have a4 : 1 * Q ≤ (P + root) / Q * Q := Int.mul_le_mul_of_nonneg_right a3 (by omega)
  generalize (P + root) / Q * Q = aQ at a1 a2 a4 e1
  have b1 : P' ≤ root := by omega
  have b2 : root - Q < P' := by omega
  have b3 : -root < P' := by omega
  have b4 : Q ≤ root + P' := by omega
  have c1 : P' * P' ≤ root * root := by
    have z : 0 ≤ (root - P') * (root + P') := Int.mul_nonneg (by omega) (by omega)
    have z2 : (root - P') * (root + P') = root * root - P' * P' := by grind
    omega
  have c2 : 0 < Q' * Q := by omega
  have c3 : 0 < Q' := by
    by_cases z : 0 < Q'
    · exact z
    · have z2 : Q' * Q ≤ 0 * Q := Int.mul_le_mul_of_nonneg_right (by omega) (by omega)
      omega
  refine ⟨c3, b1, ?_, ?_, ?_⟩
  · by_cases z : root - P' < Q'
    · exact z
    · have z2 : Q' * Q ≤ (root - P') * (root + P') := Int.mul_le_mul (by omega) b4 (by omega) (by omega)
      have z3 : (root - P') * (root + P') = root * root - P' * P' := by grind
      omega
  · by_cases z : Q' ≤ root + P'
    · exact z
    · have z2 : (root + P' + 1) * (root - P' + 1) ≤ Q' * Q := Int.mul_le_mul (by omega) (by omega) (by omega) (by omega)
      have z3 : (root + P' + 1) * (root - P' + 1) = (root + 1) * (root + 1) - P' * P' := by grind
      omega
  · exact ⟨Q, by omega⟩
theorem Red.back {d root P Q P2 Q2 : Int} (R : Red d root P Q) (S : Red d root P2 Q2) (r0 : 0 ≤ root) (h1 : root * root < d) (h2 : d < (root + 1) * (root + 1)) (e : nxt d root (P, Q) = nxt d root (P2, Q2)) : P = P2 ∧ Q = Q2 := by
  have ex := nxt_exact (root := root) (Int.ne_of_gt R.q0) R.dv
  have ex2 := nxt_exact (root := root) (Int.ne_of_gt S.q0) S.dv
  have N := R.step r0 h1 h2
  have e1 : (nxt d root (P, Q)).1 = partI P Q root * Q - P := rfl
  have e2 : (nxt d root (P2, Q2)).1 = partI P2 Q2 root * Q2 - P2 := rfl
  rw [← e] at ex2 e2
  have n0 := N.q0
  generalize (nxt d root (P, Q)).1 = P' at ex ex2 e1 e2
  generalize (nxt d root (P, Q)).2 = Q' at ex ex2 n0
  have eq : Q = Q2 := Int.eq_of_mul_eq_mul_left (Int.ne_of_gt n0) (ex.trans ex2.symm)
  subst eq
  refine ⟨?_, rfl⟩
  have l1 := R.lo
  have l2 := S.lo
  have u1 := R.p1
  have u2 := S.p1
  have q0 := R.q0
  generalize partI P Q root = a at e1
  generalize partI P2 Q root = b at e2
  have e3 : (a - b) * Q = P - P2 := by
    rw [Int.sub_mul]
    omega
  by_cases z : a - b ≤ -1
  · have z2 : (a - b) * Q ≤ -1 * Q := Int.mul_le_mul_of_nonneg_right z (by omega)
    omega
  · by_cases z' : 1 ≤ a - b
    · have z2 : 1 * Q ≤ (a - b) * Q := Int.mul_le_mul_of_nonneg_right z' (by omega)
      omega
    · have z2 : a - b = 0 := by omega
      rw [z2, Int.zero_mul] at e3
      omega
/-! ### the root of d: from (0, 1) -/
section
variable {d root : Int}
theorem cf_one (hq : True) : cf d root (0, 1) 1 = (root, d - root * root) := by
  show nxt d root (0, 1) = _
  unfold nxt
  show (partI 0 1 root * 1 - 0, (d - (partI 0 1 root * 1 - 0) * (partI 0 1 root * 1 - 0)).fdiv 1) = _
  have e : partI 0 1 root * 1 - 0 = root := by
    rw [partI_pos (by decide)]
    simp
  rw [e, Int.fdiv_one]
theorem cf_red (r0 : 0 ≤ root) (h1 : root * root < d) (h2 : d < (root + 1) * (root + 1)) : ∀ k, Red d root (cf d root (0, 1) (k + 1)).1 (cf d root (0, 1) (k + 1)).2
  | 0 => by
    rw [cf_one trivial]
    have e : (root + 1) * (root + 1) = root * root + 2 * root + 1 := by grind
    exact ⟨by show 0 < d - root * root; omega, by show root ≤ root; omega, by show root - root < d - root * root; omega, by show d - root * root ≤ root + root; omega, ⟨1, by show d - root * root = (d - root * root) * 1; omega⟩⟩
  | k + 1 => (cf_red r0 h1 h2 k).step r0 h1 h2
theorem cf_exact (r0 : 0 ≤ root) (h1 : root * root < d) (h2 : d < (root + 1) * (root + 1)) : ∀ k, (cf d root (0, 1) (k + 1)).2 * (cf d root (0, 1) k).2 = d - (cf d root (0, 1) (k + 1)).1 * (cf d root (0, 1) (k + 1)).1
  | 0 => by
    rw [cf_one trivial]
    show (d - root * root) * 1 = d - root * root
    omega
  | k + 1 => by
    have R := cf_red r0 h1 h2 k
    exact nxt_exact (P := (cf d root (0, 1) (k + 1)).1) (Q := (cf d root (0, 1) (k + 1)).2) (Int.ne_of_gt R.q0) R.dv
theorem cf_again (l : Nat) (h : (cf d root (0, 1) l).2 = 1) : cf d root (0, 1) (l + 1) = cf d root (0, 1) 1 := by
  rw [cf_one trivial]
  show nxt d root (cf d root (0, 1) l) = _
  unfold nxt
  rw [h]
  generalize (cf d root (0, 1) l).1 = P
  have e : partI P 1 root * 1 - P = root := by
    rw [partI_pos (by decide)]
    simp
    omega
  rw [e, Int.fdiv_one]
theorem cf_shift (l : Nat) (h : (cf d root (0, 1) l).2 = 1) : ∀ k, cf d root (0, 1) (l + (k + 1)) = cf d root (0, 1) (k + 1)
  | 0 => cf_again l h
  | k + 1 => by
    show nxt d root (cf d root (0, 1) (l + (k + 1))) = nxt d root (cf d root (0, 1) (k + 1))
    rw [cf_shift l h k]
theorem cf_unlike (r0 : 0 ≤ root) (h1 : root * root < d) (h2 : d < (root + 1) * (root + 1)) {l : Nat} (hm : ∀ k, 1 ≤ k → k < l → (cf d root (0, 1) k).2 ≠ 1) : ∀ j i, j < i → i ≤ l → cf d root (0, 1) j ≠ cf d root (0, 1) i
  | 0, i, hij, hl, e => by
    obtain ⟨k, rfl⟩ : ∃ k, i = k + 1 := ⟨i - 1, by omega⟩
    have R := cf_red r0 h1 h2 k
    rw [← e] at R
    have a := R.lo
    have b := R.hi
    have a2 : root - 0 < 1 := a
    have b2 : (1 : Int) ≤ root + 0 := b
    omega
  | 1, i, hij, hl, e => by
    obtain ⟨k, rfl⟩ : ∃ k, i = k + 2 := ⟨i - 2, by omega⟩
    have x := cf_exact r0 h1 h2 (k + 1)
    have R := cf_red r0 h1 h2 (k + 1)
    have x2 : (cf d root (0, 1) (k + 2)).2 * (cf d root (0, 1) (k + 1)).2 = d - (cf d root (0, 1) (k + 2)).1 * (cf d root (0, 1) (k + 2)).1 := x
    rw [← e, cf_one trivial] at x2
    have x3 : (d - root * root) * (cf d root (0, 1) (k + 1)).2 = (d - root * root) * 1 := by
      have y : (d - root * root) * (cf d root (0, 1) (k + 1)).2 = d - root * root := x2
      omega
    exact hm (k + 1) (by omega) (by omega) (Int.eq_of_mul_eq_mul_left (by omega) x3)
  | j + 2, i, hij, hl, e => by
    obtain ⟨k, rfl⟩ : ∃ k, i = k + 2 := ⟨i - 2, by omega⟩
    have b := (cf_red r0 h1 h2 j).back (cf_red r0 h1 h2 k) r0 h1 h2 e
    exact cf_unlike r0 h1 h2 hm (j + 1) (k + 1) (by omega) (by omega) (Prod.ext b.1 b.2)
end
/-! ### convergents -/
def cstep (s : (Int × Int) × (Int × Int)) (a : Int) : (Int × Int) × (Int × Int) := (s.2, (a * s.2.1 + s.1.1, a * s.2.2 + s.1.2))
def cst (ns : List Int) : (Int × Int) × (Int × Int) := ns.foldl cstep ((0, 1), (1, 0))
def cvl (ns : List Int) : List (Int × Int) := (List.range ns.length).map fun i => (cst (ns.take (i + 1))).2
theorem cst_take {ns : List Int} {i : Nat} {x : Int} (h : ns[i]? = some x) : cst (ns.take (i + 1)) = cstep (cst (ns.take i)) x := by
  unfold cst
  rw [List.take_add_one, h, List.foldl_append]
  rfl
theorem cvl_take {ns : List Int} {i : Nat} (h : i < ns.length) : cvl (ns.take (i + 1)) = cvl (ns.take i) ++ [(cst (ns.take (i + 1))).2] := by
  unfold cvl
  have e1 : (ns.take (i + 1)).length = i + 1 := by rw [List.length_take]; omega
  have e2 : (ns.take i).length = i := by rw [List.length_take]; omega
  rw [e1, e2, List.range_succ, List.map_append]
  congr 1
  · refine List.map_congr_left fun k hk => ?_
    have hk' : k < i := List.mem_range.mp hk
    rw [List.take_take, List.take_take, Nat.min_eq_left (by omega), Nat.min_eq_left (by omega)]
  · show [(cst ((ns.take (i + 1)).take (i + 1))).2] = _
    rw [List.take_take, Nat.min_self]
inductive Prs (H : Hp) : List Addr → List (Int × Int) → Prop
  | nil : Prs H [] []
  | cons {a : Addr} {p : Int × Int} {as : List Addr} {ps : List (Int × Int)} : H a = some (.tup [.int p.1, .int p.2]) → Prs H as ps → Prs H (a :: as) (p :: ps)
theorem Prs.same {H H' : Hp} {as : List Addr} {ps : List (Int × Int)} (h : Prs H as ps) (s : Same H H') : Prs H' as ps := by
  induction h with
  | nil => exact .nil
  | cons e _ ih => exact .cons (s _ _ e) ih
theorem Prs.mono {H H' : Hp} {as : List Addr} {ps : List (Int × Int)} (h : Prs H as ps) (s : ∀ b xs, H b = some (.tup xs) → H' b = some (.tup xs)) : Prs H' as ps := by
  induction h with
  | nil => exact .nil
  | cons e _ ih => exact .cons (s _ _ e) ih
theorem Prs.snoc {H : Hp} {as : List Addr} {ps : List (Int × Int)} {a : Addr} {p : Int × Int} (h : Prs H as ps) (e : H a = some (.tup [.int p.1, .int p.2])) : Prs H (as ++ [a]) (ps ++ [p]) := by
  induction h with
  | nil => exact .cons e .nil
  | cons e' _ ih => exact .cons e' ih
theorem Prs.len {H : Hp} {as : List Addr} {ps : List (Int × Int)} (h : Prs H as ps) : as.length = ps.length := by
  induction h with
  | nil => rfl
  | cons _ _ ih => rw [List.length_cons, List.length_cons, ih]
def pdI (p : Int × Int) : PyData := .tuple [.int p.1, .int p.2]
theorem Prs.dp {K : PySem.W.Frag} {H : Hp} {as : List Addr} {ps : List (Int × Int)} (h : Prs H as ps) : DpAll K H (as.map V.ref) (ps.map pdI) := by
  induction h with
  | nil => exact .nil
  | cons e _ ih => exact .cons (.tup (SqT.of e) (.cons (.int _) (.cons (.int _) .nil))) ih
theorem lay_prs : ∀ ps : List (Int × Int), PyData.canLayAll0 (ps.map pdI) = true
  | [] => rfl
  | p :: ps => by
    rw [List.map_cons, PyData.canLayAll0, lay_prs ps]
    rfl
theorem depth_prs : ∀ ps : List (Int × Int), PyData.depthAll (ps.map pdI) ≤ 1
  | [] => Nat.zero_le _
  | p :: ps => by
    rw [List.map_cons, PyData.depthAll]
    have h := depth_prs ps
    have e : (pdI p).depth = 1 := by
      unfold pdI
      rw [PyData.depth]
      rfl
    omega
theorem shaped_prs (ps : List (Int × Int)) : SeqAt.shaped (.list (ps.map pdI)) = true := by
  show (PyData.canLay0 (.list (ps.map pdI)) && decide (PyData.depth (.list (ps.map pdI)) ≤ 64)) = true
  rw [Bool.and_eq_true]
  refine ⟨by rw [PyData.canLay0]; exact lay_prs ps, decide_eq_true ?_⟩
  rw [PyData.depth]
  have h := depth_prs ps
  omega
theorem Prs.at {H : Hp} {as : List Addr} {ps : List (Int × Int)} (h : Prs H as ps) : ∀ {i : Nat} {p : Int × Int}, ps[i]? = some p → ∃ a, as[i]? = some a ∧ H a = some (.tup [.int p.1, .int p.2]) := by
  induction h with
  | nil => intro i p e; simp at e
  | @cons a q as ps e _ ih =>
    intro i p e2
    cases i with
    | zero =>
      have e3 : q = p := Option.some.inj e2
      subst e3
      exact ⟨a, rfl, e⟩
    | succ i => exact ih e2
theorem at_end {α : Type} {xs : List α} {v : α} (h : xs[xs.length - 1]? = some v) : atI xs (-1) = some v := by
  have hl : 0 < xs.length := by
    cases xs with
    | nil => cases h
    | cons x r => exact Nat.succ_pos _
  have e : ixN xs.length (-1) = some (xs.length - 1) := by
    unfold ixN
    rw [if_neg (by decide), if_pos (by omega)]
    congr 1
    omega
  unfold atI
  rw [e]
  exact h
/-! ### pell -/
def aL (d : Int) (k : Nat) : List Int := (List.range k).map (cfa d (0, 1))
theorem aL_succ (d : Int) (k : Nat) : aL d (k + 1) = aL d k ++ [cfa d (0, 1) k] := by
  unfold aL
  rw [List.range_succ, List.map_append]
  rfl
theorem aL_len (d : Int) (k : Nat) : (aL d k).length = k := by
  unfold aL
  rw [List.length_map, List.length_range]
theorem aL_at {d : Int} {k i : Nat} (h : i < k) : (aL d k)[i]? = some (cfa d (0, 1) i) := by
  unfold aL
  rw [List.getElem?_map, List.getElem?_range h]
  rfl
theorem cst_aL (d : Int) (k : Nat) : cst (aL d (k + 1)) = cstep (cst (aL d k)) (cfa d (0, 1) k) := by
  unfold cst
  rw [aL_succ, List.foldl_append]
  rfl
def sg (k : Nat) : Int := if k % 2 = 0 then 1 else -1
theorem sg_succ (k : Nat) : sg (k + 1) = -sg k := by
  unfold sg
  by_cases h : k % 2 = 0
  · rw [if_pos h, if_neg (by omega)]
  · rw [if_neg h, if_pos (by omega)]
    rfl
theorem nrm_q (Q1 Q2 P P2 d a R : Int) (h0 : Q1 ≠ 0) (hR : R*Q1 = d - P*P) (hQ2 : Q2*Q1 = d - P2*P2) (hP : P2 = a*Q1 - P) : Q2 = R + a*(P - P2) := by
  have z : (Q2 - (R + a*(P-P2)))*Q1 = 0 := by grind
  rcases Int.mul_eq_zero.mp z with h | h
  · omega
  · exact absurd h h0
theorem nrm_step (a p q e d P P2 Q1 Q2 R p0 q0 : Int) (h0 : Q1 ≠ 0) (h1 : p*p - d*(q*q) = e*Q1) (h2 : p*p0 - d*(q*q0) = -(e*P)) (h3 : p0*p0 - d*(q0*q0) = -(e*R)) (hP : P2 = a*Q1 - P) (hR : R*Q1 = d - P*P) (hQ2 : Q2*Q1 = d - P2*P2) :
    (a*p+p0)*(a*p+p0) - d*((a*q+q0)*(a*q+q0)) = -(e*Q2) ∧ (a*p+p0)*p - d*((a*q+q0)*q) = e*P2 := by
  have hQ : Q2 = R + a*(P - P2) := nrm_q Q1 Q2 P P2 d a R h0 hR hQ2 hP
  clear hQ2 hR h0
  constructor <;> grind
/-- d lies between two squares, and the walk of its root comes to the denominator 1 at l first -/
structure PellOk (d : Int) (l : Nat) : Prop where
  d0 : 0 < d
  d1 : d < 10001
  ns : rootI d * rootI d ≠ d
  l0 : 1 ≤ l
  l1 : l ≤ 40000
  one : (cf d (rootI d) (0, 1) l).2 = 1
  least : ∀ k, 1 ≤ k → k < l → (cf d (rootI d) (0, 1) k).2 ≠ 1
section
variable {d : Int} {l : Nat}
theorem PellOk.sq (h : PellOk d l) : 0 ≤ rootI d ∧ rootI d * rootI d < d ∧ d < (rootI d + 1) * (rootI d + 1) ∧ rootI d ≤ 100 := by
  have h0 := h.d0
  have h1 := h.d1
  have h2 := h.ns
  obtain ⟨a, b, c⟩ := rootI_spec (n := d) (by omega)
  refine ⟨a, by omega, c, ?_⟩
  by_cases z : rootI d ≤ 100
  · exact z
  · have e : 101 * 101 ≤ rootI d * rootI d := Int.mul_le_mul (by omega) (by omega) (by omega) (by omega)
    omega
theorem PellOk.red (h : PellOk d l) (k : Nat) : Red d (rootI d) (cf d (rootI d) (0, 1) (k + 1)).1 (cf d (rootI d) (0, 1) (k + 1)).2 := by
  obtain ⟨a, b, c, e⟩ := h.sq
  exact cf_red a b c k
theorem PellOk.size (h : PellOk d l) (k : Nat) : 0 ≤ (cf d (rootI d) (0, 1) k).1 ∧ (cf d (rootI d) (0, 1) k).1 ≤ 100 ∧ 0 < (cf d (rootI d) (0, 1) k).2 ∧ (cf d (rootI d) (0, 1) k).2 ≤ 200 := by
  obtain ⟨a, b, c, e⟩ := h.sq
  cases k with
  | zero => exact ⟨by show (0 : Int) ≤ 0; omega, by show (0 : Int) ≤ 100; omega, by show (0 : Int) < 1; omega, by show (1 : Int) ≤ 200; omega⟩
  | succ k =>
    have R := h.red k
    have r1 := R.q0
    have r2 := R.p1
    have r3 := R.lo
    have r4 := R.hi
    omega
theorem PellOk.part (h : PellOk d l) (k : Nat) : 0 ≤ cfa d (0, 1) k ∧ cfa d (0, 1) k ≤ 200 := by
  obtain ⟨a, b, c, e⟩ := h.sq
  obtain ⟨s1, s2, s3, s4⟩ := h.size k
  unfold cfa
  rw [partI_pos s3]
  have z := Int.ediv_le_self (a := (cf d (rootI d) (0, 1) k).1 + rootI d) (cf d (rootI d) (0, 1) k).2 (by omega)
  exact ⟨Int.ediv_nonneg (by omega) (by omega), by omega⟩
theorem PellOk.ex (h : PellOk d l) : ExOk 0 1 d (l + 1) 1 := by
  obtain ⟨a, b, c, e⟩ := h.sq
  have h0 := h.d0
  have h1 := h.d1
  have hl := h.l0
  have hl1 := h.l1
  refine ⟨by omega, by show d < 1152921504606846976; omega, h.ns, by decide, ?_, by omega, by omega, cf_again l h.one, fun i j hij hj => cf_unlike a b c h.least i j hij (by omega), fun i _ => ?_⟩
  · exact Int.fmod_one _
  · obtain ⟨s1, s2, s3, s4⟩ := h.size i
    exact ⟨by show _ < 1152921504606846976; omega, by show _ < 1152921504606846976; omega, by omega⟩
theorem PellOk.period (h : PellOk d l) : ∀ k, cf d (rootI d) (0, 1) (k + 1) = cf d (rootI d) (0, 1) (k % l + 1) := by
  intro k
  have hl := h.l0
  induction k using Nat.strongRecOn with
  | _ k ih =>
    by_cases hk : k < l
    · rw [Nat.mod_eq_of_lt hk]
    · have e := cf_shift l h.one (k - l)
      have e2 : l + (k - l + 1) = k + 1 := by omega
      rw [e2] at e
      rw [e, ih (k - l) (by omega)]
      have e3 : k % l = (k - l) % l := Nat.mod_eq_sub_mod (by omega)
      rw [e3]
theorem PellOk.nrm (h : PellOk d l) : ∀ k, (cst (aL d k)).2.1 * (cst (aL d k)).2.1 - d * ((cst (aL d k)).2.2 * (cst (aL d k)).2.2) = sg k * (cf d (rootI d) (0, 1) k).2 ∧ (cst (aL d k)).2.1 * (cst (aL d k)).1.1 - d * ((cst (aL d k)).2.2 * (cst (aL d k)).1.2) = -(sg k * (cf d (rootI d) (0, 1) k).1) ∧
    ∃ R, (cst (aL d k)).1.1 * (cst (aL d k)).1.1 - d * ((cst (aL d k)).1.2 * (cst (aL d k)).1.2) = -(sg k * R) ∧ R * (cf d (rootI d) (0, 1) k).2 = d - (cf d (rootI d) (0, 1) k).1 * (cf d (rootI d) (0, 1) k).1
  | 0 => ⟨by show (1 : Int) * 1 - d * (0 * 0) = 1 * 1; omega, by show (1 : Int) * 0 - d * (0 * 1) = -(1 * 0); omega, d, by show (0 : Int) * 0 - d * (1 * 1) = -(1 * d); omega, by show d * 1 = d - 0 * 0; omega⟩
  | k + 1 => by
    obtain ⟨h1, h2, R, h3, h4⟩ := h.nrm k
    obtain ⟨a, b, c, e⟩ := h.sq
    have x := cf_exact a b c k
    obtain ⟨s1, s2, s3, s4⟩ := h.size k
    have hP : (cf d (rootI d) (0, 1) (k + 1)).1 = cfa d (0, 1) k * (cf d (rootI d) (0, 1) k).2 - (cf d (rootI d) (0, 1) k).1 := rfl
    obtain ⟨n1, n2⟩ := nrm_step _ _ _ _ _ _ _ _ _ _ _ _ (by omega) h1 h2 h3 hP h4 x
    rw [cst_aL, sg_succ]
    refine ⟨?_, ?_, (cf d (rootI d) (0, 1) k).2, ?_, ?_⟩
    · rw [Int.neg_mul]
      exact n1
    · rw [Int.neg_mul, Int.neg_neg]
      exact n2
    · rw [Int.neg_mul, Int.neg_neg]
      exact h1
    · rw [Int.mul_comm]
      exact x
theorem PellOk.wide (h : PellOk d l) : ∀ k, (cst (aL d k)).1.1.natAbs ≤ 2 ^ (8 * k) ∧ (cst (aL d k)).1.2.natAbs ≤ 2 ^ (8 * k) ∧ (cst (aL d k)).2.1.natAbs ≤ 2 ^ (8 * k) ∧ (cst (aL d k)).2.2.natAbs ≤ 2 ^ (8 * k)
  | 0 => by
    show Int.natAbs 0 ≤ 1 ∧ Int.natAbs 1 ≤ 1 ∧ Int.natAbs 1 ≤ 1 ∧ Int.natAbs 0 ≤ 1
    decide
  | k + 1 => by
    obtain ⟨h1, h2, h3, h4⟩ := h.wide k
    obtain ⟨a0, a1⟩ := h.part k
    rw [cst_aL]
    have e : (2 : Nat) ^ (8 * (k + 1)) = 2 ^ (8 * k) * 256 := by
      rw [Nat.mul_add, Nat.pow_add]
    rw [e]
    have st : ∀ x y : Int, x.natAbs ≤ 2 ^ (8 * k) → y.natAbs ≤ 2 ^ (8 * k) → (cfa d (0, 1) k * x + y).natAbs ≤ 2 ^ (8 * k) * 256 := by
      intro x y hx hy
      have z1 : (cfa d (0, 1) k * x).natAbs = (cfa d (0, 1) k).natAbs * x.natAbs := Int.natAbs_mul _ _
      have z2 : (cfa d (0, 1) k).natAbs * x.natAbs ≤ 200 * 2 ^ (8 * k) := Nat.mul_le_mul (by omega) hx
      generalize (2 : Nat) ^ (8 * k) = B at hx hy z2 ⊢
      omega
    exact ⟨by show (cst (aL d k)).2.1.natAbs ≤ _; omega, by show (cst (aL d k)).2.2.natAbs ≤ _; omega, st _ _ h3 h1, st _ _ h4 h2⟩
/-- how many parts pell takes -/
def pellN (l : Nat) : Nat := if l % 2 = 1 then 2 * l else l
theorem PellOk.hit (h : PellOk d l) {k : Nat} (hk : k < pellN l) : (cst (aL d (k + 1))).2.1 * (cst (aL d (k + 1))).2.1 - d * ((cst (aL d (k + 1))).2.2 * (cst (aL d (k + 1))).2.2) = 1 ↔ k + 1 = pellN l := by
  rw [(h.nrm (k + 1)).1]
  obtain ⟨s1, s2, s3, s4⟩ := h.size (k + 1)
  have hl := h.l0
  have per := h.period k
  have q1 : (cf d (rootI d) (0, 1) (k + 1)).2 = 1 ↔ (k + 1) % l = 0 := by
    by_cases z : k % l + 1 < l
    · have lm := h.least (k % l + 1) (by omega) z
      rw [← per] at lm
      have e : (k + 1) % l = k % l + 1 := by
        rw [Nat.add_mod, Nat.mod_eq_of_lt (show 1 < l by omega), Nat.mod_eq_of_lt z]
      exact ⟨fun y => absurd y lm, fun y => by omega⟩
    · have zl := Nat.mod_lt k (show 0 < l by omega)
      have e2 : k % l + 1 = l := by omega
      have e : (k + 1) % l = 0 := by
        have e3 := Nat.div_add_mod k l
        have e4 : k + 1 = l * (k / l + 1) := by
          rw [Nat.mul_add]
          omega
        rw [e4]
        exact Nat.mul_mod_right _ _
      rw [per, e2]
      exact ⟨fun _ => e, fun _ => h.one⟩
  have sgn : ∀ n, sg n = 1 ∨ sg n = -1 := fun n => by
    unfold sg
    split
    · exact .inl rfl
    · exact .inr rfl
  have s5 : sg (k + 1) * (cf d (rootI d) (0, 1) (k + 1)).2 = 1 ↔ (k + 1) % 2 = 0 ∧ (k + 1) % l = 0 := by
    rw [← q1]
    unfold sg
    by_cases z : (k + 1) % 2 = 0
    · rw [if_pos z]
      exact ⟨fun y => ⟨z, by omega⟩, fun y => by omega⟩
    · rw [if_neg z]
      exact ⟨fun y => by omega, fun y => absurd y.1 z⟩
  rw [s5]
  unfold pellN at hk ⊢
  by_cases odd : l % 2 = 1
  · rw [if_pos odd] at hk ⊢
    constructor
    · rintro ⟨y1, y2⟩
      obtain ⟨c, hc⟩ := Nat.dvd_of_mod_eq_zero y2
      have c1 : c ≠ 1 := fun z => by
        rw [z] at hc
        omega
      have c2 : c ≠ 0 := fun z => by
        rw [z] at hc
        omega
      have c3 : l * 2 ≤ l * c := Nat.mul_le_mul_left _ (by omega)
      omega
    · intro y
      rw [y]
      exact ⟨by omega, Nat.mod_eq_zero_of_dvd ⟨2, by omega⟩⟩
  · rw [if_neg odd] at hk ⊢
    constructor
    · rintro ⟨y1, y2⟩
      obtain ⟨c, hc⟩ := Nat.dvd_of_mod_eq_zero y2
      have c2 : c ≠ 0 := fun z => by
        rw [z] at hc
        omega
      have c3 : l * 1 ≤ l * c := Nat.mul_le_mul_left _ (by omega)
      omega
    · intro y
      rw [y]
      exact ⟨by omega, Nat.mod_self l⟩
end

/-! ### Nat -/
section
variable {X : Cx}
theorem modNN : OpR X (binaryOp .Mod) (fun x y H Q => ∃ n m : Nat, x = .int (n : Int) ∧ y = .int (m : Int) ∧ 0 < m ∧ Q (.int ((n % m : Nat) : Int)) H) := by
  intro pins s σ H x y v u Q I rx ry h
  obtain ⟨n, m, rfl, rfl, c, q⟩ := h
  rw [Int.natCast_emod] at q
  exact op_mod pins s σ H _ _ v u Q I rx ry ⟨_, _, rfl, rfl, by show (0 : Int) < (m : Int); omega, q⟩
theorem mulNN : OpR X (binaryOp .Mult) (fun x y H Q => ∃ n m : Nat, x = .int (n : Int) ∧ y = .int (m : Int) ∧ (n < 2 ^ 64 ∨ m < 2 ^ 64) ∧ Q (.int ((n * m : Nat) : Int)) H) := by
  intro pins s σ H x y v u Q I rx ry h
  obtain ⟨n, m, rfl, rfl, c, q⟩ := h
  rw [Int.natCast_mul] at q
  refine op_mul pins s σ H _ _ v u Q I rx ry ⟨_, _, rfl, rfl, ?_, q⟩
  rcases c with c | c
  · have c' : n < 18446744073709551616 := c
    exact .inl ⟨by omega, by show (n : Int) < 18446744073709551616; omega⟩
  · have c' : m < 18446744073709551616 := c
    exact .inr ⟨by omega, by show (m : Int) < 18446744073709551616; omega⟩
theorem divNN : OpR X (binaryOp .FloorDiv) (fun x y H Q => ∃ n m : Nat, x = .int (n : Int) ∧ y = .int (m : Int) ∧ (0 < m ∧ m < 2 ^ 9000) ∧ Q (.int ((n / m : Nat) : Int)) H) := by
  intro pins s σ H x y v u Q I rx ry h
  obtain ⟨n, m, rfl, rfl, ⟨c1, c2⟩, q⟩ := h
  rw [Int.natCast_ediv] at q
  refine op_fdivW pins s σ H _ _ v u Q I rx ry ⟨_, _, rfl, rfl, ⟨by omega, ?_⟩, q⟩
  rw [Int.natAbs_natCast]
  exact PySem.Flt.log2_lt_of (by decide) c2
end
theorem div9 {m : Nat} (h0 : 0 < m) (h : m < 2 ^ 64) : 0 < m ∧ m < 2 ^ 9000 := ⟨h0, pow_up h (by decide)⟩
theorem powI (b n : Nat) : ((b : Int) ^ n) = ((b ^ n : Nat) : Int) := (Int.natCast_pow b n).symm
/-! ### mirrors -/
def pmL (m : Nat) : Nat → Nat → Nat → Nat → Nat
  | 0, r, _, _ => r
  | f + 1, r, s, k => bif k.beq 0 then r else pmL m f (bif (k % 2).beq 1 then r * s % m else r) (s * s % m) (k / 2)
/-- b ^ e % m, by halving -/
def pmod (b e m : Nat) : Nat := pmL m 64 1 (b % m) e
def toL (p : Nat) : Nat → Nat → Nat → Nat × Nat
  | 0, n, k => (k, n)
  | f + 1, n, k => bif (n % p).beq 0 then toL p f (n / p) (k + 1) else (k, n)
def takenOut (n p : Nat) : Nat × Nat := toL p 64 n 0
def behL (n : Nat) : Nat → Nat → Bool
  | 0, _ => false
  | k + 1, x => bif x.beq (n - 1) then true else behL n k (x * x % n)
def behaves (n base many odd : Nat) : Bool := bif (pmod base odd n).beq 1 then true else behL n many (pmod base odd n)
def wits : List Nat := [2, 3, 5, 7, 11, 13, 17, 19, 23, 29, 31, 37]
/-- n by the first of these that measures it: it is that one -/
def byW (n : Nat) : List Nat → Option Bool
  | [] => none
  | p :: r => bif (n % p).beq 0 then some (n.beq p) else byW n r
def isPrimeM (n : Nat) : Bool := bif n.ble 1 then false else match byW n wits with
  | some b => b
  | none => wits.all fun b => behaves n b (takenOut (n - 1) 2).1 (takenOut (n - 1) 2).2
def leastL (n : Nat) : Nat → Nat → Option Nat
  | 0, _ => none
  | f + 1, x => bif (n % x).beq 0 then some x else leastL n f (x + 2)
def leastM (n start : Nat) : Option Nat := bif (n % 2).beq 0 then some 2 else leastL n n (bif start.ble 3 then 3 else start)
/-- the prime parts, as the program finds them: none where its search would not end in this many steps -/
def ppL : Nat → Nat → Nat → Option (List (Nat × Nat))
  | 0, _, _ => none
  | f + 1, rest, p => bif rest.ble 1 then some [] else
    match (bif isPrimeM rest then some rest else leastM rest p) with
    | none => none
    | some q => match ppL f (takenOut rest q).2 q with
      | none => none
      | some l => some ((q, (takenOut rest q).1) :: l)
def ppM (n : Nat) : Option (List (Nat × Nat)) := ppL 70 n 2
theorem bifT {α : Type} {b : Bool} (h : b = true) (x y : α) : (bif b then x else y) = x := by rw [h]; rfl
theorem bifF {α : Type} {b : Bool} (h : b = false) (x y : α) : (bif b then x else y) = y := by rw [h]; rfl
theorem beqT {a b : Nat} (h : a = b) : a.beq b = true := by rw [h]; exact Nat.beq_refl b
theorem beqF {a b : Nat} (h : a ≠ b) : a.beq b = false := by
  cases e : a.beq b with
  | false => rfl
  | true => exact absurd (Nat.eq_of_beq_eq_true e) h
theorem bleT {a b : Nat} (h : a ≤ b) : a.ble b = true := Nat.ble_eq_true_of_le h
theorem bleF {a b : Nat} (h : ¬ a ≤ b) : a.ble b = false := by
  cases e : a.ble b with
  | false => rfl
  | true => exact absurd (Nat.le_of_ble_eq_true e) h
theorem toL_pos {p : Nat} (hp : 2 ≤ p) : ∀ {f n k : Nat}, 0 < n → 0 < (toL p f n k).2 ∧ (toL p f n k).2 ≤ n
  | 0, n, k, h => ⟨h, Nat.le_refl _⟩
  | f + 1, n, k, h => by
    unfold toL
    by_cases e : n % p = 0
    · rw [bifT (beqT e)]
      have h1 : p ≤ n := Nat.le_of_dvd h (Nat.dvd_of_mod_eq_zero e)
      have h2 : 0 < n / p := Nat.div_pos h1 (by omega)
      obtain ⟨a, b⟩ := toL_pos hp (f := f) (k := k + 1) h2
      exact ⟨a, Nat.le_trans b (Nat.div_le_self _ _)⟩
    · rw [bifF (beqF e)]
      exact ⟨h, Nat.le_refl _⟩
theorem pmL_lt {m : Nat} (h : 0 < m) : ∀ {f r s k : Nat}, r < m → pmL m f r s k < m
  | 0, r, s, k, hr => hr
  | f + 1, r, s, k, hr => by
    unfold pmL
    cases k.beq 0 with
    | true => exact hr
    | false =>
      refine pmL_lt h ?_
      cases (k % 2).beq 1 with
      | true => exact Nat.mod_lt _ h
      | false => exact hr
theorem pmod_lt {b e m : Nat} (h : 1 < m) : pmod b e m < m := pmL_lt (by omega) h
def nats (l : List (Nat × Nat)) : List (Int × Int) := l.map fun p => ((p.1 : Int), (p.2 : Int))

/-! ### forms -/
def dsc (a b c : Int) : Int := b * b - 4 * a * c
def fA (a b c p r : Int) : Int := a * p * p + b * p * r + c * r * r
def fB (a b c p q r s : Int) : Int := 2 * a * p * q + b * (p * s + q * r) + 2 * c * r * s
theorem actA (a b c p q r s x y : Int) : fA (fA a b c p r) (fB a b c p q r s) (fA a b c q s) x y = fA a b c (p * x + q * y) (r * x + s * y) := by
  unfold fA fB
  grind
theorem actB (a b c p q r s x y z w : Int) : fB (fA a b c p r) (fB a b c p q r s) (fA a b c q s) x z y w = fB a b c (p * x + q * y) (p * z + q * w) (r * x + s * y) (r * z + s * w) := by
  unfold fA fB
  grind
theorem dsc_act (a b c p q r s : Int) : dsc (fA a b c p r) (fB a b c p q r s) (fA a b c q s) = dsc a b c * ((p * s - q * r) * (p * s - q * r)) := by
  unfold dsc fA fB
  grind
theorem act_mid (a b c p q r s : Int) : a * (p + q) * (p + q) + b * (p + q) * (r + s) + c * (r + s) * (r + s) - (a * p * p + b * p * r + c * r * r) - (a * q * q + b * q * s + c * s * s) = 2 * a * p * q + b * (p * s + q * r) + 2 * c * r * s := by
  grind
def kindS (d : Int) : Str := if d < 0 then "definite" else if d = 0 then "flat" else if rootI d * rootI d = d then "split" else "indefinite"
/-- the forms that the law draws -/
def sortS (ind : Bool) : Str := if ind then "indefinite" else "definite"
def FormOk (ind : Bool) (a b c : Int) : Prop := a.natAbs ≤ 5 ∧ b.natAbs ≤ 6 ∧ c.natAbs ≤ 5 ∧ kindS (dsc a b c) = sortS ind
theorem kindS_ind {d : Int} (h : kindS d = "indefinite") : 0 < d ∧ rootI d * rootI d ≠ d := by
  unfold kindS at h
  by_cases z : d < 0
  · rw [if_pos z] at h
    exact absurd h (by decide)
  · rw [if_neg z] at h
    by_cases y : d = 0
    · rw [if_pos y] at h
      exact absurd h (by decide)
    · rw [if_neg y] at h
      by_cases x : rootI d * rootI d = d
      · rw [if_pos x] at h
        exact absurd h (by decide)
      · exact ⟨by omega, x⟩
theorem kindS_def {d : Int} (h : kindS d = "definite") : d < 0 := by
  unfold kindS at h
  by_cases z : d < 0
  · exact z
  · rw [if_neg z] at h
    by_cases y : d = 0
    · rw [if_pos y] at h
      exact absurd h (by decide)
    · rw [if_neg y] at h
      by_cases x : rootI d * rootI d = d
      · rw [if_pos x] at h
        exact absurd h (by decide)
      · rw [if_neg x] at h
        exact absurd h (by decide)
theorem uLawRoot0 {n : Int} (h : 0 ≤ n) : 0 ≤ rootI n ∧ rootI n ≤ n := by
  obtain ⟨a, b, c⟩ := rootI_spec h
  refine ⟨a, ?_⟩
  by_cases z : rootI n = 0
  · omega
  · have := Int.mul_le_mul_of_nonneg_right (show 1 ≤ rootI n by omega) a
    omega
theorem mul3 {x y z : Int} {X Y Z : Nat} (h1 : x.natAbs ≤ X) (h2 : y.natAbs ≤ Y) (h3 : z.natAbs ≤ Z) : (x * y * z).natAbs ≤ X * Y * Z := by
  rw [Int.natAbs_mul, Int.natAbs_mul]
  exact Nat.mul_le_mul (Nat.mul_le_mul h1 h2) h3
theorem abs3_le {x y z : Int} {Z : Nat} (h1 : x.natAbs ≤ Z) (h2 : y.natAbs ≤ Z) (h3 : z.natAbs ≤ Z) : (x + y + z).natAbs ≤ 3 * Z := by omega
theorem abs4_le {x y z w : Int} {Z : Nat} (h1 : x.natAbs ≤ Z) (h2 : y.natAbs ≤ Z) (h3 : z.natAbs ≤ Z) (h4 : w.natAbs ≤ Z) : (2 * x + y + z + 2 * w).natAbs ≤ 6 * Z := by omega
theorem act_size {a b c p q r s : Int} {C M : Nat} (ha : a.natAbs ≤ C) (hb : b.natAbs ≤ C) (hc : c.natAbs ≤ C) (hp : p.natAbs ≤ M) (hq : q.natAbs ≤ M) (hr : r.natAbs ≤ M) (hs : s.natAbs ≤ M) :
    (fA a b c p r).natAbs ≤ 3 * (C * M * M) ∧ (fB a b c p q r s).natAbs ≤ 6 * (C * M * M) ∧ (fA a b c q s).natAbs ≤ 3 * (C * M * M) := by
  have t1 := mul3 ha hp hp
  have t2 := mul3 hb hp hr
  have t3 := mul3 hc hr hr
  have t4 := mul3 ha hp hq
  have t5 := mul3 hb hp hs
  have t6 := mul3 hb hq hr
  have t7 := mul3 hc hr hs
  have t8 := mul3 ha hq hq
  have t9 := mul3 hb hq hs
  have t0 := mul3 hc hs hs
  have e : fB a b c p q r s = 2 * (a * p * q) + b * p * s + b * q * r + 2 * (c * r * s) := by
    unfold fB
    grind
  rw [e]
  exact ⟨abs3_le t1 t2 t3, abs4_le t4 t5 t6 t7, abs3_le t8 t9 t0⟩
theorem dsc_size {a b c : Int} {n : Int} (n0 : 0 ≤ n) (ha : (a.natAbs : Int) ≤ n) (hb : (b.natAbs : Int) ≤ n) (hc : (c.natAbs : Int) ≤ n) : -(5 * (n * n)) ≤ dsc a b c ∧ dsc a b c ≤ 5 * (n * n) := by
  have e1 : ((b * b).natAbs : Int) ≤ n * n := by
    rw [Int.natAbs_mul, Int.natCast_mul]
    exact Int.mul_le_mul hb hb (by omega) n0
  have e2 : ((a * c).natAbs : Int) ≤ n * n := by
    rw [Int.natAbs_mul, Int.natCast_mul]
    exact Int.mul_le_mul ha hc (by omega) n0
  unfold dsc
  rw [Int.mul_assoc]
  generalize b * b = x at *
  generalize a * c = y at *
  generalize n * n = z at *
  omega

/-! ### split forms -/
/-- a direction: (x, y) without its measure, the sign set -/
def Dir (x y x' y' : Int) : Prop := (∃ g, g ≠ 0 ∧ x = g * x' ∧ y = g * y') ∧ gI x' y' = 1 ∧ (0 < x' ∨ (x' = 0 ∧ y' = 1))
/-- (x, y) is where one of the two lines of the form lies, with the middle number k behind it -/
def Ln (a b c k x y : Int) : Prop := 2 * a * x + b * y = -(k * y) ∧ b * x + 2 * c * y = k * x
theorem Ln.zero {a b c k x y : Int} (h : Ln a b c k x y) : fA a b c x y = 0 := by
  obtain ⟨h1, h2⟩ := h
  have e : 2 * fA a b c x y = x * (2 * a * x + b * y) + y * (b * x + 2 * c * y) := by
    unfold fA
    grind
  rw [h1, h2] at e
  have : x * -(k * y) + y * (k * x) = 0 := by grind
  omega
theorem Ln.mid {a b c k x y u v : Int} (h : Ln a b c k x y) (hd : u * x + v * y = 1) : fB a b c x (-v) y u = k := by
  obtain ⟨h1, h2⟩ := h
  have e : fB a b c x (-v) y u = -v * (2 * a * x + b * y) + u * (b * x + 2 * c * y) := by
    unfold fB
    grind
  rw [e, h1, h2]
  have : -v * -(k * y) + u * (k * x) = k * (u * x + v * y) := by grind
  rw [this, hd, Int.mul_one]
theorem Ln.of {a b c k g x y : Int} (hg : g ≠ 0) (h : Ln a b c k (g * x) (g * y)) : Ln a b c k x y := by
  obtain ⟨h1, h2⟩ := h
  constructor
  · refine Int.eq_of_mul_eq_mul_left hg ?_
    have e1 : g * (2 * a * x + b * y) = 2 * a * (g * x) + b * (g * y) := by grind
    have e2 : g * -(k * y) = -(k * (g * y)) := by grind
    rw [e1, e2]
    exact h1
  · refine Int.eq_of_mul_eq_mul_left hg ?_
    have e1 : g * (b * x + 2 * c * y) = b * (g * x) + 2 * c * (g * y) := by grind
    have e2 : g * (k * x) = k * (g * x) := by grind
    rw [e1, e2]
    exact h2
/-- the canonical split form is one -/
theorem split_one {k c c' p q r s : Int} (k0 : 0 < k) (hd : p * s - q * r = 1) (h1 : 0 ≤ c) (h2 : c < k) (h3 : 0 ≤ c') (h4 : c' < k) (ea : 0 = fA 0 k c p r) (eb : k = fB 0 k c p q r s) (ec : c' = fA 0 k c q s) : c = c' := by
  unfold fA at ea ec
  unfold fB at eb
  have e1 : r * (k * p + c * r) = 0 := by
    have : 0 * p * p + k * p * r + c * r * r = r * (k * p + c * r) := by grind
    omega
  rcases Int.mul_eq_zero.mp e1 with h | h
  · subst h
    have ps : p * s = 1 := by omega
    have hs : s.natAbs = 1 := by
      have h : p.natAbs * s.natAbs = 1 := by
        rw [← Int.natAbs_mul, ps]
        rfl
      exact Nat.dvd_one.mp ⟨p.natAbs, by rw [Nat.mul_comm]; exact h.symm⟩
    have s2 : s * s = 1 := by
      rcases Int.natAbs_eq s with h3 | h3 <;> rw [h3, hs] <;> rfl
    have e2 : c' = k * (q * s) + c := by
      have : 0 * q * q + k * q * s + c * s * s = k * (q * s) + c * (s * s) := by grind
      rw [s2] at this
      omega
    generalize q * s = t at e2
    have : t = 0 := by
      rcases Int.lt_trichotomy t 0 with h | h | h
      · have := Int.mul_le_mul_of_nonneg_left (show t ≤ -1 by omega) (show 0 ≤ k by omega)
        omega
      · exact h
      · have := Int.mul_le_mul_of_nonneg_left (show 1 ≤ t by omega) (show 0 ≤ k by omega)
        omega
    subst this
    omega
  · exfalso
    have e2 : 2 * 0 * p * q + k * (p * s + q * r) + 2 * c * r * s = k * (q * r - p * s) + 2 * s * (k * p + c * r) := by grind
    rw [h, show q * r - p * s = -1 by omega] at e2
    omega
theorem gL_two (x y : Int) : gL [x, y] = ((Nat.gcd x.natAbs y.natAbs : Nat) : Int) := by
  unfold gL
  simp [gI]
theorem dir_of {x y G g : Int} (h : x ≠ 0 ∨ y ≠ 0) (hG : G = ((Nat.gcd x.natAbs y.natAbs : Nat) : Int)) (hg : g = if x < 0 ∨ (x = 0 ∧ y < 0) then -G else G) : g ≠ 0 ∧ Dir x y (x.fdiv g) (y.fdiv g) ∧ (x.fdiv g).natAbs ≤ x.natAbs ∧ (y.fdiv g).natAbs ≤ y.natAbs := by
  have hp : 0 < Nat.gcd x.natAbs y.natAbs := by
    rcases h with h | h
    · exact Nat.gcd_pos_of_pos_left _ (by omega)
    · exact Nat.gcd_pos_of_pos_right _ (by omega)
  have g0 : g ≠ 0 := by
    rw [hg]
    split <;> omega
  have ga : g.natAbs = Nat.gcd x.natAbs y.natAbs := by
    rw [hg, hG]
    split <;> omega
  have dx : g ∣ x := Int.natAbs_dvd_natAbs.mp (by rw [ga]; exact Nat.gcd_dvd_left _ _)
  have dy : g ∣ y := Int.natAbs_dvd_natAbs.mp (by rw [ga]; exact Nat.gcd_dvd_right _ _)
  obtain ⟨x', hx⟩ := dx
  obtain ⟨y', hy⟩ := dy
  have ex : x.fdiv g = x' := by rw [hx, Int.mul_fdiv_cancel_left _ g0]
  have ey : y.fdiv g = y' := by rw [hy, Int.mul_fdiv_cancel_left _ g0]
  rw [ex, ey]
  have co : Nat.gcd x'.natAbs y'.natAbs = 1 := by
    have e : Nat.gcd x.natAbs y.natAbs = Nat.gcd x.natAbs y.natAbs * Nat.gcd x'.natAbs y'.natAbs := by
      conv => lhs; rw [hx, hy, Int.natAbs_mul, Int.natAbs_mul, Nat.gcd_mul_left, ga]
    exact (Nat.eq_of_mul_eq_mul_left hp (by rw [Nat.mul_one]; exact e)).symm
  have l1 : x'.natAbs ≤ x.natAbs := by
    rw [hx, Int.natAbs_mul]
    exact Nat.le_mul_of_pos_left _ (by omega)
  have l2 : y'.natAbs ≤ y.natAbs := by
    rw [hy, Int.natAbs_mul]
    exact Nat.le_mul_of_pos_left _ (by omega)
  refine ⟨g0, ⟨⟨g, g0, hx, hy⟩, by unfold gI; rw [co]; rfl, ?_⟩, l1, l2⟩
  have G0 : 0 < G := by omega
  by_cases z : x < 0 ∨ (x = 0 ∧ y < 0)
  · rw [if_pos z] at hg
    rcases z with z | ⟨z1, z2⟩
    · left
      rcases Int.lt_trichotomy x' 0 with k | k | k
      · have := Int.mul_pos_of_neg_of_neg (show g < 0 by omega) k
        omega
      · subst k
        omega
      · exact k
    · right
      have x0 : x' = 0 := by
        rw [z1] at hx
        exact (Int.mul_eq_zero.mp hx.symm).resolve_left g0
      subst x0
      refine ⟨rfl, ?_⟩
      have y1 : y'.natAbs = 1 := by
        have := co
        simp at this
        exact this
      rcases Int.lt_trichotomy y' 0 with k | k | k
      · have := Int.mul_pos_of_neg_of_neg (show g < 0 by omega) k
        omega
      · subst k
        omega
      · omega
  · rw [if_neg z] at hg
    by_cases w : x = 0
    · right
      have x0 : x' = 0 := by
        rw [w] at hx
        exact (Int.mul_eq_zero.mp hx.symm).resolve_left g0
      subst x0
      refine ⟨rfl, ?_⟩
      have y1 : y'.natAbs = 1 := by
        have := co
        simp at this
        exact this
      rcases Int.lt_trichotomy y' 0 with k | k | k
      · have := Int.mul_neg_of_pos_of_neg (show 0 < g by omega) k
        omega
      · subst k
        omega
      · omega
    · left
      rcases Int.lt_trichotomy x' 0 with k | k | k
      · have := Int.mul_neg_of_pos_of_neg (show 0 < g by omega) k
        omega
      · subst k
        omega
      · exact k
theorem ln0 (b c : Int) : Ln 0 b c (-b) c (-b) := by
  constructor
  · grind
  · grind
theorem ln1 {a b c k : Int} (hd : b * b - 4 * a * c = k * k) : Ln a b c (-k) (k - b) (2 * a) ∧ Ln a b c (- -k) (-k - b) (2 * a) := by
  have e : b * (k - b) + 2 * c * (2 * a) = k * b - (b * b - 4 * a * c) := by grind
  have e2 : b * (-k - b) + 2 * c * (2 * a) = -(k * b) - (b * b - 4 * a * c) := by grind
  refine ⟨⟨?_, ?_⟩, ⟨?_, ?_⟩⟩
  · grind
  · rw [e, hd]
    grind
  · grind
  · rw [e2, hd]
    grind
/-- a split form of the root k -/
structure SF (k a b c : Int) : Prop where
  d : dsc a b c = k * k
  k0 : 0 < k
theorem SF.root {k a b c : Int} (F : SF k a b c) : rootI (b * b - 4 * a * c) = k := by
  have d : b * b - 4 * a * c = k * k := F.d
  have k0 := F.k0
  have e : k * k < (k + 1) * (k + 1) := by
    have : (k + 1) * (k + 1) = k * k + 2 * k + 1 := by grind
    omega
  rw [d]
  exact (rootI_uniq (Int.mul_nonneg (by omega) (by omega)) (by omega) (Int.le_refl _) e).symm
/-- a line: its point, the sign of the middle number behind it -/
structure Pt2 (a b c k x y : Int) : Prop where
  g : gI x y = 1
  s : 0 < x ∨ (x = 0 ∧ y = 1)
  l : Ln a b c k x y
  b1 : x.natAbs ≤ 35184372088832
  b2 : y.natAbs ≤ 35184372088832
theorem iteVV {i j : Nat} {σ : L2.St} {H : Hp} {Q : VK} {c : Prop} [Decidable c] {v : V} (h1 : c → σ[i]? = some (some v)) (h2 : ¬ c → σ[j]? = some (some v)) (q : Q v H) : if decide c = true then tVar i σ H Q else tVar j σ H Q := by
  by_cases h : c
  · rw [if_pos (decide_eq_true h)]
    exact ⟨v, h1 h, q⟩
  · rw [if_neg (fun z => h (of_decide_eq_true z))]
    exact ⟨v, h2 h, q⟩
/-- what canonical_split gives -/
structure CS (k a b c c' p q r s : Int) : Prop where
  c0 : 0 ≤ c'
  c1 : c' < k
  det : p * s - q * r = 1
  ea : 0 = fA a b c p r
  eb : k = fB a b c p q r s
  ec : c' = fA a b c q s
theorem upd_seqT {K : PySem.W.Frag} {H : Hp} {D a : Addr} {ys zs xs : List V} (hD : H D = some (.lst ys)) (h : SqT K H a xs) : SqT K (upd H D (.lst zs)) a xs := by
  rcases h with (h | ⟨o, h⟩) | h
  · refine .inl (.inl ((upd_ne ?_).trans h))
    rintro rfl
    rw [hD] at h
    cases h
  · refine .inl (.inr ⟨o, (upd_ne ?_).trans h⟩)
    rintro rfl
    rw [hD] at h
    cases h
  · exact .inr h
theorem cs_of {k a b c x y u v : Int} (k0 : 0 < k) (d : u * x + v * y = 1) (l : Ln a b c k x y) : CS k a b c (fA a b c (-v) u % k) (x * 1 + -v * 0) (x * -((fA a b c (-v) u).fdiv k) + -v * 1) (y * 1 + u * 0) (y * -((fA a b c (-v) u).fdiv k) + u * 1) := by
  have z := l.zero
  have m := l.mid d
  have e := Int.mul_ediv_add_emod (fA a b c (-v) u) k
  rw [← Int.fdiv_eq_ediv_of_nonneg _ (by omega)] at e
  generalize hn : (fA a b c (-v) u).fdiv k = n at *
  refine ⟨Int.emod_nonneg _ (by omega), Int.emod_lt_of_pos _ k0, ?_, ?_, ?_, ?_⟩
  · grind
  · rw [show x * 1 + -v * 0 = x by omega, show y * 1 + u * 0 = y by omega, z]
  · have e3 : fB a b c (x * 1 + -v * 0) (x * -n + -v * 1) (y * 1 + u * 0) (y * -n + u * 1) = 2 * -n * fA a b c x y + fB a b c x (-v) y u := by
      unfold fA fB
      grind
    rw [e3, z, m]
    omega
  · have e3 : fA a b c (x * -n + -v * 1) (y * -n + u * 1) = n * n * fA a b c x y + -n * fB a b c x (-v) y u + fA a b c (-v) u := by
      unfold fA fB
      grind
    rw [e3, z, m]
    have : -n * k = -(k * n) := by grind
    omega

/-! ### flat forms -/
structure FL (a b c g p q : Int) : Prop where
  ea : a = g * (p * p)
  eb : b = 2 * (g * (p * q))
  ec : c = g * (q * q)
  co : gI p q = 1
  sg : 0 < p ∨ (p = 0 ∧ q = 1)
  g0 : g ≠ 0
theorem gL_three (x y z : Int) : gL [x, y, z] = ((Nat.gcd (Nat.gcd x.natAbs y.natAbs) z.natAbs : Nat) : Int) := by
  unfold gL
  simp [gI]
theorem FL.content {a b c g p q : Int} (h : FL a b c g p q) : gL [a, b, c] = (g.natAbs : Int) := by
  obtain ⟨ea, eb, ec, co, sg, g0⟩ := h
  rw [gL_three]
  have e1 : a.natAbs = g.natAbs * (p.natAbs * p.natAbs) := by rw [ea, Int.natAbs_mul, Int.natAbs_mul]
  have e2 : b.natAbs = g.natAbs * (2 * (p.natAbs * q.natAbs)) := by
    rw [eb, Int.natAbs_mul, Int.natAbs_mul, Int.natAbs_mul]
    show 2 * (g.natAbs * (p.natAbs * q.natAbs)) = _
    ac_rfl
  have e3 : c.natAbs = g.natAbs * (q.natAbs * q.natAbs) := by rw [ec, Int.natAbs_mul, Int.natAbs_mul]
  have co2 : Nat.Coprime p.natAbs q.natAbs := by
    have : ((Nat.gcd p.natAbs q.natAbs : Nat) : Int) = 1 := co
    show Nat.gcd p.natAbs q.natAbs = 1
    omega
  have c2 : Nat.Coprime (p.natAbs * p.natAbs) (q.natAbs * q.natAbs) := Nat.Coprime.mul_left (Nat.Coprime.mul_right co2 co2) (Nat.Coprime.mul_right co2 co2)
  have c3 : Nat.gcd (Nat.gcd (p.natAbs * p.natAbs) (2 * (p.natAbs * q.natAbs))) (q.natAbs * q.natAbs) = 1 := by
    refine Nat.dvd_one.mp ?_
    rw [← c2]
    exact Nat.dvd_gcd (Nat.dvd_trans (Nat.gcd_dvd_left _ _) (Nat.gcd_dvd_left _ _)) (Nat.gcd_dvd_right _ _)
  rw [e1, e2, e3, Nat.gcd_mul_left, Nat.gcd_mul_left, c3, Nat.mul_one]
theorem FL.of {a b c g P Q : Int} (g0 : g ≠ 0) (h : P ≠ 0 ∨ Q ≠ 0) (ea : a = g * (P * P)) (eb : b = 2 * (g * (P * Q))) (ec : c = g * (Q * Q)) : ∃ g' p q, FL a b c g' p q := by
  obtain ⟨h0, ⟨⟨k, k0, e1, e2⟩, co, sg⟩, _, _⟩ := dir_of (x := P) (y := Q) (g := if P < 0 ∨ (P = 0 ∧ Q < 0) then -((Nat.gcd P.natAbs Q.natAbs : Nat) : Int) else ((Nat.gcd P.natAbs Q.natAbs : Nat) : Int)) h rfl rfl
  generalize P.fdiv _ = p at *
  generalize Q.fdiv _ = q at *
  refine ⟨g * (k * k), p, q, ?_, ?_, ?_, co, sg, ?_⟩
  · rw [ea, e1]
    grind
  · rw [eb, e1, e2]
    grind
  · rw [ec, e2]
    grind
  · intro z
    rcases Int.mul_eq_zero.mp z with w | w
    · exact g0 w
    · exact k0 ((Int.mul_eq_zero.mp w).elim id id)
def FlatR (a b c g p q : Int) : Prop := (a = 0 ∧ b = 0 ∧ c = 0 ∧ g = 0 ∧ p = 1 ∧ q = 0) ∨ FL a b c g p q
theorem em_step {a b i B : Nat} (hb : b ≠ 0) (h : (i = 0 ∧ a * b * 2 < B) ∨ (b ≤ a ∧ a * b * 2 ^ i < B)) : a % b ≤ b ∧ b * (a % b) * 2 ^ (i + 1) < B := by
  have h1 : a % b < b := Nat.mod_lt _ (by omega)
  refine ⟨by omega, ?_⟩
  rcases h with ⟨rfl, h⟩ | ⟨hl, h⟩
  · have h2 : b * (a % b) ≤ b * a := Nat.mul_le_mul_left _ (Nat.mod_le _ _)
    rw [Nat.mul_comm b a] at h2
    have e : (2 : Nat) ^ (0 + 1) = 2 := rfl
    rw [e]
    omega
  · have h2 : 2 * (a % b) ≤ a := by
      have h3 := Nat.div_add_mod a b
      have h4 : 1 ≤ a / b := Nat.div_pos hl (by omega)
      have h5 : b * 1 ≤ b * (a / b) := Nat.mul_le_mul_left _ h4
      omega
    have h3 : b * (2 * (a % b)) ≤ b * a := Nat.mul_le_mul_left _ h2
    have e : b * (a % b) * 2 ^ (i + 1) = b * (2 * (a % b)) * 2 ^ i := by
      rw [Nat.pow_succ]
      ac_rfl
    rw [e]
    refine Nat.lt_of_le_of_lt (Nat.mul_le_mul_right _ h3) ?_
    rw [Nat.mul_comm b a]
    exact h

theorem em_end5 {a b G B : Nat} (hG : Nat.gcd a b = G) (h : (5000 = 0 ∧ a * b * 2 < B) ∨ (b ≤ a ∧ a * b * 2 ^ 5000 < B)) (hB : B ≤ 2 ^ 5000) : a = G := by
  rcases h with ⟨h, _⟩ | ⟨hl, h⟩
  · cases h
  · have h1 : a * b = 0 := by
      by_cases z : a * b = 0
      · exact z
      · have h2 : 1 * 2 ^ 5000 ≤ a * b * 2 ^ 5000 := Nat.mul_le_mul_right _ (by omega)
        rw [Nat.one_mul] at h2
        omega
    have hb : b = 0 := by
      rcases Nat.mul_eq_zero.mp h1 with z | z
      · omega
      · exact z
    rw [hb, Nat.gcd_zero_right] at hG
    exact hG

namespace R
theorem asg2 {te : TE} {g1 g2 : TG} {σ : L2.St} {H : Hp} {nx : L2.St → Hp → Prop} {rt : VK} {bk ct : L2.St → Hp → Prop} (h : te σ H fun x H1 => g1 x σ H1 fun σ1 H2 => g2 x σ1 H2 nx) : tAsg2 te g1 g2 (Ends.mk nx rt bk ct) σ H := h
theorem inV_ints (x : Int) (ns : List Int) : inV (.int x) (ns.map V.int) = decide (x ∈ ns) := by
  unfold inV
  induction ns with
  | nil => rfl
  | cons m ms ih =>
    rw [List.map_cons, List.any_cons, ih]
    have e : eqV (.int m) (.int x) = decide (m = x) := rfl
    rw [e]
    by_cases z : m = x
    · subst z
      simp
    · have z2 : ¬ x = m := fun h => z h.symm
      by_cases z3 : x ∈ ms <;> simp [z, z2, z3]
theorem flat_ints (ns : List Int) : (ns.map V.int).all flatV = true := by
  rw [List.all_map]
  exact List.all_eq_true.mpr fun _ _ => rfl
theorem inI {K : PySem.W.Frag} {H : Hp} {Q : VK} {q : Addr} {x : Int} {ns : List Int} (h2 : SqL K H q (ns.map V.int) ∨ SqT K H q (ns.map V.int)) (h : Q (.bl (decide (x ∈ ns))) H) : rIn K false (.int x) (.ref q) H Q := by
  refine ⟨q, _, rfl, h2, rfl, flat_ints ns, ?_⟩
  show Q (.bl (inV (.int x) (ns.map V.int))) H
  rw [inV_ints]
  exact h
section
variable {K : PySem.W.Frag} {σ : L2.St} {H : Hp} {Q : VK} {g : TG} {tt : TT} {te : TE} {vs : List Nat}
theorem lcFP {a : Addr} {as : List Addr} {ns : List (Int × Int)} (p : Int × Int → Bool) (f : Int × Int → Int) (hl : ns.length ≤ 100000) (hT : SqL K H a (as.map V.ref)) (hp : Prs H as ns)
    (hs : ∀ n ax H' (C : V → Hp → Prop) (E : Hp → Prop), n ∈ ns → Same H H' → H' ax = some (.tup [.int n.1, .int n.2]) → (p n = true → C (.int (f n)) H') → (p n = false → E H') → g (.ref ax) (wipe σ vs) H' fun σ2 H2 => wipe σ2 vs = wipe σ vs ∧ tt σ2 H2 fun k H3 => if k = true then te σ2 H3 C else E H3)
    (hq : ∀ H' D, H' D = some (.lst (((ns.filter p).map f).map V.int)) → Same H H' → H D = none → Q (.ref D) H') : LcJ (Itl K a) g tt te vs σ H Q := by
  intro D nD
  have hlen := hp.len
  refine lc_list (K := K) (a := a) (xs := as.map V.ref) (fun i H' => H' D = some (.lst ((((ns.take i).filter p).map f).map V.int)) ∧ Same H H') ⟨upd_same, same_upd nD⟩ (fun i H' _ h => h.2.seq hT) (fun i x H5 hx ⟨h1, h5⟩ => ?_) (fun H5 ⟨h1, h5⟩ => ?_)
  · rw [List.getElem?_map] at hx
    cases hn : ns[i]? with
    | none =>
      have e := List.getElem?_eq_none_iff.mp hn
      rw [List.getElem?_eq_none (by omega)] at hx
      cases hx
    | some n =>
      obtain ⟨ax, h6, h7⟩ := hp.at hn
      rw [h6] at hx
      cases hx
      refine hs n ax H5 _ _ (List.mem_of_getElem? hn) h5 (h5 _ _ h7) (fun e => ⟨_, h1, ?_, ?_, same_mut h5 nD⟩) (fun e => ⟨?_, h5⟩)
      · rw [List.length_map, List.length_map]
        have := List.length_filter_le p (ns.take i)
        rw [List.length_take] at this
        exact Nat.lt_of_le_of_lt (Nat.le_trans this (by omega : min i ns.length ≤ 100000)) (by decide)
      · rw [upd_same, List.take_add_one, hn, Option.toList_some, List.filter_append, List.filter_cons_of_pos (by exact e), List.map_append, List.map_append]
        rfl
      · rw [List.take_add_one, hn, Option.toList_some, List.filter_append, List.filter_cons_of_neg (by rw [e]; decide), List.filter_nil, List.append_nil]
        exact h1
  · rw [List.length_map, hlen, List.take_length] at h1
    exact hq H5 D h1 h5 nD
theorem lcFT {a : Addr} {ns : List Int} (p : Int → Bool) (f : Int → Int) (hl : ns.length ≤ 100000) (hT : SqT K H a (ns.map V.int))
    (hs : ∀ n H' (C : V → Hp → Prop) (E : Hp → Prop), n ∈ ns → Same H H' → (p n = true → C (.int (f n)) H') → (p n = false → E H') → g (.int n) (wipe σ vs) H' fun σ2 H2 => wipe σ2 vs = wipe σ vs ∧ tt σ2 H2 fun k H3 => if k = true then te σ2 H3 C else E H3)
    (hq : ∀ H' D, H' D = some (.lst (((ns.filter p).map f).map V.int)) → Same H H' → H D = none → Q (.ref D) H') : LcJ (Itt K a) g tt te vs σ H Q := by
  intro D nD
  refine lc_tup (K := K) (a := a) (xs := ns.map V.int) (fun i H' => H' D = some (.lst ((((ns.take i).filter p).map f).map V.int)) ∧ Same H H') ⟨upd_same, same_upd nD⟩ (fun i H' _ h => same_seqT h.2 hT) (fun i x H5 hx ⟨h1, h5⟩ => ?_) (fun H5 ⟨h1, h5⟩ => ?_)
  · rw [List.getElem?_map] at hx
    cases hn : ns[i]? with
    | none =>
      rw [hn] at hx
      cases hx
    | some n =>
      rw [hn] at hx
      cases hx
      refine hs n H5 _ _ (List.mem_of_getElem? hn) h5 (fun e => ⟨_, h1, ?_, ?_, same_mut h5 nD⟩) (fun e => ⟨?_, h5⟩)
      · rw [List.length_map, List.length_map]
        have := List.length_filter_le p (ns.take i)
        rw [List.length_take] at this
        exact Nat.lt_of_le_of_lt (Nat.le_trans this (by omega : min i ns.length ≤ 100000)) (by decide)
      · rw [upd_same, List.take_add_one, hn, Option.toList_some, List.filter_append, List.filter_cons_of_pos (by exact e), List.map_append, List.map_append]
        rfl
      · rw [List.take_add_one, hn, Option.toList_some, List.filter_append, List.filter_cons_of_neg (by rw [e]; decide), List.filter_nil, List.append_nil]
        exact h1
  · rw [List.length_map, List.take_length] at h1
    exact hq H5 D h1 h5 nD
theorem extend {H : Hp} {Q : VK} {l b : Addr} {xs zs : List V} (h : H l = some (.lst xs)) (h2 : H b = some (.lst zs)) (z : xs.length + zs.length ≤ 1000000) (q : ∀ H', H' = upd H l (.lst (xs ++ zs)) → H' l = some (.lst (xs ++ zs)) → Q .non H') : rExtend (.ref l) [.ref b] H Q :=
  ⟨l, b, xs, zs, rfl, rfl, h, h2, Nat.le_of_lt (Nat.lt_of_le_of_lt z (by decide)), q _ rfl upd_same⟩
end
theorem neTup {K : PySem.W.Frag} {H : Hp} {Q : VK} {p q : Addr} {ns ms : List Int} (h1 : SqT K H p (ns.map V.int)) (h2 : SqT K H q (ms.map V.int)) (h : Q (.bl (!decide (ns = ms))) H) : rNeD K (.ref p) (.ref q) H Q := by
  refine ⟨_, _, .tup h1 (dp_ints ns), .tup h2 (dp_ints ms), shaped_intsT ns, shaped_intsT ms, ?_⟩
  rw [eqB]
  exact h
end R
theorem inSQ {X : Cx} (K : PySem.W.Frag) (h : X.K = K := by rfl) : OpR X (compareOp .In) (rIn K false) := by
  subst h
  exact op_in_seq
/-! ### prime numbers by their measures -/
def resM (u p : Nat) : Bool := (pmod u ((p - 1) / 2) p).beq 1
theorem bez_ex : ∀ (n a b : Nat), b ≤ n → ∃ u v : Int, u * (a : Int) + v * (b : Int) = ((Nat.gcd a b : Nat) : Int)
  | 0, a, b, h => ⟨1, 0, by
    have e : b = 0 := by omega
    rw [e, Nat.gcd_zero_right]
    omega⟩
  | n + 1, a, b, h => by
    by_cases e : b = 0
    · exact ⟨1, 0, by rw [e, Nat.gcd_zero_right]; omega⟩
    · obtain ⟨u, v, huv⟩ := bez_ex n b (a % b) (by have := Nat.mod_lt a (show 0 < b by omega); omega)
      refine ⟨v, u - v * ((a / b : Nat) : Int), ?_⟩
      have e1 : Nat.gcd b (a % b) = Nat.gcd a b := by rw [Nat.gcd_comm b, ← Nat.gcd_rec, Nat.gcd_comm]
      rw [e1] at huv
      rw [← huv]
      have e2 : (a : Int) = (b : Int) * ((a / b : Nat) : Int) + ((a % b : Nat) : Int) := by
        rw [← Int.natCast_mul, ← Int.natCast_add, Nat.div_add_mod]
      generalize ((a / b : Nat) : Int) = q at e2 ⊢
      generalize ((a % b : Nat) : Int) = r at e2 ⊢
      rw [e2]
      grind

/-- p is prime: what is below has no measure with it -/
structure EP (p : Nat) : Prop where
  two : 2 ≤ p
  co : ∀ k, 1 ≤ k → k < p → Nat.gcd p k = 1
def epB (p : Nat) : Bool := Nat.ble 2 p && (List.range p).all fun k => k.beq 0 || (Nat.gcd p k).beq 1
theorem ep_of {p : Nat} (h : epB p = true) : EP p := by
  unfold epB at h
  rw [Bool.and_eq_true] at h
  refine ⟨Nat.le_of_ble_eq_true h.1, fun k h1 h2 => ?_⟩
  have a := List.all_eq_true.mp h.2 k (List.mem_range.mpr h2)
  rw [Bool.or_eq_true] at a
  rcases a with a | a
  · have := Nat.eq_of_beq_eq_true a
    omega
  · exact Nat.eq_of_beq_eq_true a
theorem EP.cop {p : Nat} (h : EP p) {x : Nat} (hx : ¬ p ∣ x) : Nat.gcd p x = 1 := by
  have p0 := h.two
  have e : Nat.gcd p x = Nat.gcd p (x % p) := by
    rw [Nat.gcd_rec, Nat.gcd_comm]
  have h2 := Nat.mod_lt x (show 0 < p by omega)
  have h3 : x % p ≠ 0 := fun z => hx (Nat.dvd_of_mod_eq_zero z)
  rw [e]
  exact h.co _ (by omega) h2
theorem EP.euclid {p : Nat} (h : EP p) {x y : Int} (hd : (p : Int) ∣ x * y) : (p : Int) ∣ x ∨ (p : Int) ∣ y := by
  by_cases z : (p : Int) ∣ x
  · exact .inl z
  · right
    have z2 : ¬ p ∣ x.natAbs := fun w => z (Int.ofNat_dvd_left.mpr w)
    have hd2 : p ∣ x.natAbs * y.natAbs := by
      rw [← Int.natAbs_mul]
      exact Int.ofNat_dvd_left.mp hd
    exact Int.ofNat_dvd_left.mpr (Nat.Coprime.dvd_of_dvd_mul_left (h.cop z2) hd2)
theorem EP.eq {p q : Nat} (h : EP p) (g : EP q) (hd : (p : Int) ∣ (q : Int)) : p = q := by
  have hd2 : p ∣ q := Int.ofNat_dvd.mp hd
  have p0 := h.two
  have q0 := g.two
  by_cases z : p = q
  · exact z
  · have l := Nat.le_of_dvd (by omega) hd2
    have e := g.co p (by omega) (by omega)
    rw [Nat.gcd_comm, Nat.gcd_eq_left hd2] at e
    omega
/-- the walk of point_apart -/
def ptS (a c : Int) (s : Int × Int) (p : Nat) : Int × Int := if a % (p : Int) = 0 then (if c % (p : Int) = 0 then s else (s.1 * (p : Int), s.2)) else (s.1, s.2 * (p : Int))
def ptF (a c : Int) (ps : List Nat) : Int × Int := ps.foldl (ptS a c) (1, 1)
theorem dvd_mod {a : Int} {p : Nat} : a % (p : Int) = 0 ↔ (p : Int) ∣ a := ⟨Int.dvd_of_emod_eq_zero, Int.emod_eq_zero_of_dvd⟩
theorem pt_spec {a c : Int} {p : Nat} (h : EP p) : ∀ (ps : List Nat) (s : Int × Int), (∀ q ∈ ps, EP q) →
    (((p : Int) ∣ (ps.foldl (ptS a c) s).1 ↔ ((p : Int) ∣ s.1 ∨ (p ∈ ps ∧ (p : Int) ∣ a ∧ ¬ (p : Int) ∣ c))) ∧ ((p : Int) ∣ (ps.foldl (ptS a c) s).2 ↔ ((p : Int) ∣ s.2 ∨ (p ∈ ps ∧ ¬ (p : Int) ∣ a))))
  | [], s, _ => by
    refine ⟨⟨fun z => .inl z, fun z => z.resolve_right fun w => nomatch w.1⟩, ⟨fun z => .inl z, fun z => z.resolve_right fun w => nomatch w.1⟩⟩
  | q :: ps, s, hq => by
    obtain ⟨i1, i2⟩ := pt_spec (a := a) (c := c) h ps (ptS a c s q) (fun x hx => hq x (List.mem_cons_of_mem _ hx))
    have eq1 := hq q List.mem_cons_self
    have hm : ∀ x : Int, (p : Int) ∣ x * (q : Int) ↔ (p : Int) ∣ x ∨ p = q := fun x => by
      constructor
      · intro z
        rcases h.euclid z with z | z
        · exact .inl z
        · exact .inr (h.eq eq1 z)
      · rintro (z | rfl)
        · exact Int.dvd_trans z ⟨_, rfl⟩
        · exact ⟨x, Int.mul_comm _ _⟩
    rw [List.foldl_cons, i1, i2]
    unfold ptS
    by_cases ha : a % (q : Int) = 0
    · rw [if_pos ha]
      have ha' := dvd_mod.mp ha
      by_cases hc : c % (q : Int) = 0
      · rw [if_pos hc]
        have hc' := dvd_mod.mp hc
        constructor
        · constructor
          · rintro (z | ⟨z1, z2⟩)
            · exact .inl z
            · exact .inr ⟨List.mem_cons_of_mem _ z1, z2⟩
          · rintro (z | ⟨z1, z2, z3⟩)
            · exact .inl z
            · rcases List.mem_cons.mp z1 with rfl | z1
              · exact absurd hc' z3
              · exact .inr ⟨z1, z2, z3⟩
        · constructor
          · rintro (z | ⟨z1, z2⟩)
            · exact .inl z
            · exact .inr ⟨List.mem_cons_of_mem _ z1, z2⟩
          · rintro (z | ⟨z1, z2⟩)
            · exact .inl z
            · rcases List.mem_cons.mp z1 with rfl | z1
              · exact absurd ha' z2
              · exact .inr ⟨z1, z2⟩
      · rw [if_neg hc]
        have hc' : ¬ (q : Int) ∣ c := fun z => hc (dvd_mod.mpr z)
        constructor
        · rw [hm]
          constructor
          · rintro ((z | rfl) | ⟨z1, z2⟩)
            · exact .inl z
            · exact .inr ⟨List.mem_cons_self, ha', hc'⟩
            · exact .inr ⟨List.mem_cons_of_mem _ z1, z2⟩
          · rintro (z | ⟨z1, z2, z3⟩)
            · exact .inl (.inl z)
            · rcases List.mem_cons.mp z1 with z1 | z1
              · exact .inl (.inr z1)
              · exact .inr ⟨z1, z2, z3⟩
        · constructor
          · rintro (z | ⟨z1, z2⟩)
            · exact .inl z
            · exact .inr ⟨List.mem_cons_of_mem _ z1, z2⟩
          · rintro (z | ⟨z1, z2⟩)
            · exact .inl z
            · rcases List.mem_cons.mp z1 with rfl | z1
              · exact absurd ha' z2
              · exact .inr ⟨z1, z2⟩
    · rw [if_neg ha]
      have ha' : ¬ (q : Int) ∣ a := fun z => ha (dvd_mod.mpr z)
      constructor
      · constructor
        · rintro (z | ⟨z1, z2⟩)
          · exact .inl z
          · exact .inr ⟨List.mem_cons_of_mem _ z1, z2⟩
        · rintro (z | ⟨z1, z2, z3⟩)
          · exact .inl z
          · rcases List.mem_cons.mp z1 with rfl | z1
            · exact absurd z2 ha'
            · exact .inr ⟨z1, z2, z3⟩
      · rw [hm]
        constructor
        · rintro ((z | rfl) | ⟨z1, z2⟩)
          · exact .inl z
          · exact .inr ⟨List.mem_cons_self, ha'⟩
          · exact .inr ⟨List.mem_cons_of_mem _ z1, z2⟩
        · rintro (z | ⟨z1, z2⟩)
          · exact .inl (.inl z)
          · rcases List.mem_cons.mp z1 with z1 | z1
            · exact .inl (.inr z1)
            · exact .inr ⟨z1, z2⟩
/-- the number of the walk has no measure with these primes -/
theorem pt_apart {a b c : Int} {ps : List Nat} (hp : ∀ q ∈ ps, EP q) {p : Nat} (h : p ∈ ps) (hn : ¬ ((p : Int) ∣ a ∧ (p : Int) ∣ b ∧ (p : Int) ∣ c)) : ¬ (p : Int) ∣ fA a b c (ptF a c ps).1 (ptF a c ps).2 := by
  have ep := hp p h
  obtain ⟨i1, i2⟩ := pt_spec (a := a) (c := c) ep ps (1, 1) hp
  have no1 : ¬ (p : Int) ∣ 1 := fun z => by
    have := Int.ofNat_dvd.mp (show (p : Int) ∣ ((1 : Nat) : Int) from z)
    have := Nat.dvd_one.mp this
    have := ep.two
    omega
  change ((p : Int) ∣ (ptF a c ps).1 ↔ _) at i1
  change ((p : Int) ∣ (ptF a c ps).2 ↔ _) at i2
  generalize ptF a c ps = s at *
  obtain ⟨X, Y⟩ := s
  dsimp only at *
  intro hd
  unfold fA at hd
  by_cases ha : (p : Int) ∣ a
  · have hY : ¬ (p : Int) ∣ Y := fun z => (i2.mp z).elim no1 fun w => w.2 ha
    by_cases hc : (p : Int) ∣ c
    · have hX : ¬ (p : Int) ∣ X := fun z => (i1.mp z).elim no1 fun w => w.2.2 hc
      have d1 : (p : Int) ∣ a * X * X := Int.dvd_trans ha ⟨X * X, by rw [Int.mul_assoc]⟩
      have d2 : (p : Int) ∣ c * Y * Y := Int.dvd_trans hc ⟨Y * Y, by rw [Int.mul_assoc]⟩
      have d3 : (p : Int) ∣ b * X * Y := by
        have := Int.dvd_sub (Int.dvd_sub hd d1) d2
        rwa [show a * X * X + b * X * Y + c * Y * Y - a * X * X - c * Y * Y = b * X * Y by omega] at this
      rcases ep.euclid d3 with z | z
      · rcases ep.euclid z with z | z
        · exact hn ⟨ha, z, hc⟩
        · exact hX z
      · exact hY z
    · have hX : (p : Int) ∣ X := i1.mpr (.inr ⟨h, ha, hc⟩)
      have d1 : (p : Int) ∣ a * X * X := Int.dvd_trans ha ⟨X * X, by rw [Int.mul_assoc]⟩
      have d2 : (p : Int) ∣ b * X * Y := Int.dvd_trans hX ⟨b * Y, by grind⟩
      have d3 : (p : Int) ∣ c * Y * Y := by
        have := Int.dvd_sub (Int.dvd_sub hd d1) d2
        rwa [show a * X * X + b * X * Y + c * Y * Y - a * X * X - b * X * Y = c * Y * Y by omega] at this
      rcases ep.euclid d3 with z | z
      · rcases ep.euclid z with z | z
        · exact hc z
        · exact hY z
      · exact hY z
  · have hY : (p : Int) ∣ Y := i2.mpr (.inr ⟨h, ha⟩)
    have hX : ¬ (p : Int) ∣ X := fun z => (i1.mp z).elim no1 fun w => ha w.2.1
    have d1 : (p : Int) ∣ c * Y * Y := Int.dvd_trans hY ⟨c * Y, by grind⟩
    have d2 : (p : Int) ∣ b * X * Y := Int.dvd_trans hY ⟨b * X, by grind⟩
    have d3 : (p : Int) ∣ a * X * X := by
      have := Int.dvd_sub (Int.dvd_sub hd d1) d2
      rwa [show a * X * X + b * X * Y + c * Y * Y - c * Y * Y - b * X * Y = a * X * X by omega] at this
    rcases ep.euclid d3 with z | z
    · rcases ep.euclid z with z | z
      · exact ha z
      · exact hX z
    · exact hX z
/-- sizes of the walk -/
theorem pt_size {a c : Int} : ∀ (ps : List Nat) (s : Int × Int) (t : Nat), (∀ q ∈ ps, 1 ≤ q) → s.1.natAbs ≤ t → s.2.natAbs ≤ t → (ps.foldl (ptS a c) s).1.natAbs ≤ ps.foldl (· * ·) t ∧ (ps.foldl (ptS a c) s).2.natAbs ≤ ps.foldl (· * ·) t
  | [], s, t, _, h1, h2 => ⟨h1, h2⟩
  | q :: ps, s, t, hq, h1, h2 => by
    have q1 := hq q List.mem_cons_self
    have l : t ≤ t * q := Nat.le_mul_of_pos_right _ (by omega)
    rw [List.foldl_cons, List.foldl_cons]
    refine pt_size ps _ _ (fun x hx => hq x (List.mem_cons_of_mem _ hx)) ?_ ?_
    · unfold ptS
      split
      · split
        · omega
        · show (s.1 * (q : Int)).natAbs ≤ t * q
          rw [Int.natAbs_mul, Int.natAbs_natCast]
          exact Nat.mul_le_mul_right _ h1
      · exact Nat.le_trans h1 l
    · unfold ptS
      split
      · split
        · omega
        · exact Nat.le_trans h2 l
      · show (s.2 * (q : Int)).natAbs ≤ t * q
        rw [Int.natAbs_mul, Int.natAbs_natCast]
        exact Nat.mul_le_mul_right _ h2
theorem prod_bd : ∀ (ps : List Nat) (t k : Nat), (∀ q ∈ ps, q < 1000) → t < 2 ^ (10 * k + 1) → ps.foldl (· * ·) t < 2 ^ (10 * (k + ps.length) + 1)
  | [], t, k, _, h => h
  | q :: ps, t, k, hq, h => by
    have q1 := hq q List.mem_cons_self
    rw [List.foldl_cons, List.length_cons, show k + (ps.length + 1) = k + 1 + ps.length by omega]
    refine prod_bd ps _ (k + 1) (fun x hx => hq x (List.mem_cons_of_mem _ hx)) ?_
    have e : (2 : Nat) ^ (10 * (k + 1) + 1) = 2 ^ (10 * k + 1) * 2 ^ 10 := by
      rw [← Nat.pow_add, show 10 * k + 1 + 10 = 10 * (k + 1) + 1 by omega]
    rw [e]
    exact Nat.mul_lt_mul'' h (Nat.lt_trans q1 (by decide))
theorem none_of {H H' : Hp} {a : Addr} (s : Same H H') (n : H' a = none) : H a = none := by
  cases e : H a with
  | none => rfl
  | some o =>
    rw [s _ _ e] at n
    cases n
/-! ### squares -/
def sqB (r p : Nat) : Bool := (List.range p).any fun x => (x * x % p).beq r
/-- 4 m n is a square: both are squares or neither -/
theorem sq_go {p : Nat} (h : EP p) (p2 : p ≠ 2) {m n U V D : Int} (e : 4 * m * n = U * U - D * (V * V)) (hD : (p : Int) ∣ D) (hm : ¬ (p : Int) ∣ m) (hs : sqB (m % (p : Int)).toNat p = true) : sqB (n % (p : Int)).toNat p = true := by
  have p0 := h.two
  obtain ⟨x, hx, hr⟩ := List.any_eq_true.mp hs
  have hr := Nat.eq_of_beq_eq_true hr
  have m0 := Int.emod_nonneg m (show (p : Int) ≠ 0 by omega)
  have hx2 : ((x * x % p : Nat) : Int) = m % (p : Int) := by
    rw [hr]
    omega
  -- x is no multiple
  have hxx : (p : Int) ∣ m - (x : Int) * (x : Int) := by
    refine Int.dvd_of_emod_eq_zero ?_
    rw [Int.sub_emod, ← hx2, Int.natCast_emod, Int.natCast_mul, Int.sub_self]
    rfl
  have hxn : ¬ (p : Int) ∣ (x : Int) := fun z => by
    have := Int.dvd_add hxx (Int.dvd_trans z ⟨(x : Int), rfl⟩)
    rw [Int.sub_add_cancel] at this
    exact hm this
  have h2 : ¬ (p : Int) ∣ 2 := fun z => p2 (h.eq ⟨by decide, fun k h1 h2 => by
    have : k = 1 := by omega
    subst this
    rfl⟩ z)
  have h2x : ¬ p ∣ 2 * x := fun z => by
    have z2 : (p : Int) ∣ 2 * (x : Int) := by
      have := Int.ofNat_dvd.mpr z
      rwa [Int.natCast_mul] at this
    exact (h.euclid z2).elim h2 hxn
  obtain ⟨w, v, hb⟩ := bez_ex p (2 * x) p (Nat.le_refl _)
  have hb' : w * (2 * (x : Int)) + v * (p : Int) = 1 := by
    have g := h.cop h2x
    rw [Nat.gcd_comm] at g
    rw [g, Int.natCast_mul] at hb
    exact hb
  -- t = U w
  have ht : (p : Int) ∣ n - (U * w) * (U * w) := by
    obtain ⟨k, hk⟩ := hxx
    obtain ⟨j, hj⟩ := hD
    have e1 : U * U = 4 * m * n + D * (V * V) := by omega
    have em : m = (x : Int) * (x : Int) + (p : Int) * k := by omega
    have e2 : (U * w) * (U * w) = (U * U) * (w * w) := by grind
    have e3 : w * (2 * (x : Int)) = 1 - v * (p : Int) := by omega
    refine ⟨n * (2 * v - v * v * (p : Int)) - 4 * k * n * (w * w) - j * (V * V) * (w * w), ?_⟩
    rw [e2, e1, hj]
    have e4 : 4 * m * n * (w * w) = n * ((w * (2 * (x : Int))) * (w * (2 * (x : Int)))) + 4 * ((p : Int) * k) * n * (w * w) := by
      rw [em]
      grind
    have e5 : (4 * m * n + (p : Int) * j * (V * V)) * (w * w) = 4 * m * n * (w * w) + (p : Int) * j * (V * V) * (w * w) := Int.add_mul _ _ _
    rw [e5, e4, e3]
    grind
  have t0 := Int.emod_nonneg (U * w) (show (p : Int) ≠ 0 by omega)
  have t1 := Int.emod_lt_of_pos (U * w) (show 0 < (p : Int) by omega)
  refine List.any_eq_true.mpr ⟨((U * w) % (p : Int)).toNat, List.mem_range.mpr (by omega), beqT ?_⟩
  have n0 := Int.emod_nonneg n (show (p : Int) ≠ 0 by omega)
  have e6 : (((((U * w) % (p : Int)).toNat * ((U * w) % (p : Int)).toNat % p : Nat)) : Int) = n % (p : Int) := by
    rw [Int.natCast_emod, Int.natCast_mul, Int.toNat_of_nonneg t0, ← Int.mul_emod]
    obtain ⟨k, hk⟩ := ht
    rw [show U * w * (U * w) = n - (p : Int) * k by omega, Int.sub_mul_emod_self_left]
  omega
/-! ### signs at 2 -/
def fo (n : Int) : Int := if n % 4 = 1 then 1 else -1
def ei (n : Int) : Int := if n % 8 = 1 ∨ n % 8 = 7 then 1 else -1
def sg2 (r n : Int) : List Int := if r = 3 ∨ r = 4 ∨ r = 7 then [fo n] else if r = 6 then [fo n * ei n] else if r = 2 then [ei n] else if r = 0 then [fo n, ei n] else []
theorem sg2_v (n : Int) : sg2 0 n = [fo n, ei n] ∧ sg2 1 n = [] ∧ sg2 2 n = [ei n] ∧ sg2 3 n = [fo n] ∧ sg2 4 n = [fo n] ∧ sg2 5 n = [] ∧ sg2 6 n = [fo n * ei n] ∧ sg2 7 n = [fo n] := by
  unfold sg2
  simp
def sgT : Bool := (List.range 8).all fun r => (List.range 8).all fun m => (List.range 8).all fun n => (m % 2).beq 0 || (n % 2).beq 0 || ((List.range 8).all fun u => (List.range 8).all fun v => !((m * n % 8).beq ((u * u + (8 - r) * (v * v)) % 8)) || decide (sg2 (r : Int) (m : Int) = sg2 (r : Int) (n : Int)))
theorem sgT_ok : sgT = true := by decide +kernel
theorem fo_mod (n : Int) : fo (n % 8) = fo n := by
  unfold fo
  rw [show n % 8 % 4 = n % 4 by omega]
theorem ei_mod (n : Int) : ei (n % 8) = ei n := by
  unfold ei
  rw [show n % 8 % 8 = n % 8 by omega]
theorem sg2_mod (r n : Int) : sg2 r (n % 8) = sg2 r n := by
  unfold sg2
  rw [fo_mod, ei_mod]
theorem sg2_same {m n U V D : Int} (e : m * n = U * U - D * (V * V)) (hm : m % 2 = 1) (hn : n % 2 = 1) : sg2 (D % 8) m = sg2 (D % 8) n := by
  have h := List.all_eq_true.mp sgT_ok (D % 8).toNat (List.mem_range.mpr (by omega))
  have h := List.all_eq_true.mp h (m % 8).toNat (List.mem_range.mpr (by omega))
  have h := List.all_eq_true.mp h (n % 8).toNat (List.mem_range.mpr (by omega))
  rw [Bool.or_eq_true, Bool.or_eq_true] at h
  rcases h with (h | h) | h
  · have := Nat.eq_of_beq_eq_true h
    omega
  · have := Nat.eq_of_beq_eq_true h
    omega
  · have h := List.all_eq_true.mp h (U % 8).toNat (List.mem_range.mpr (by omega))
    have h := List.all_eq_true.mp h (V % 8).toNat (List.mem_range.mpr (by omega))
    rw [Bool.or_eq_true] at h
    have t : ∀ x : Int, (((x % 8).toNat : Nat) : Int) = x % 8 := fun x => by omega
    rcases h with h | h
    · exfalso
      have key : (m % 8).toNat * (n % 8).toNat % 8 = ((U % 8).toNat * (U % 8).toNat + (8 - (D % 8).toNat) * ((V % 8).toNat * (V % 8).toNat)) % 8 := by
        have z : (((m % 8).toNat * (n % 8).toNat % 8 : Nat) : Int) = ((((U % 8).toNat * (U % 8).toNat + (8 - (D % 8).toNat) * ((V % 8).toNat * (V % 8).toNat)) % 8 : Nat) : Int) := by
          rw [Int.natCast_emod, Int.natCast_emod, Int.natCast_mul, Int.natCast_add, Int.natCast_mul, Int.natCast_mul, Int.natCast_mul, t, t, t, t]
          have e8 : ((8 - (D % 8).toNat : Nat) : Int) = 8 - D % 8 := by omega
          rw [e8]
          have d1 := Int.mul_ediv_add_emod m 8
          have d2 := Int.mul_ediv_add_emod n 8
          have d3 := Int.mul_ediv_add_emod U 8
          have d4 := Int.mul_ediv_add_emod V 8
          have d5 := Int.mul_ediv_add_emod D 8
          generalize m % 8 = m' at *
          generalize n % 8 = n' at *
          generalize U % 8 = U' at *
          generalize V % 8 = V' at *
          generalize D % 8 = D' at *
          generalize m / 8 = x1 at *
          generalize n / 8 = x2 at *
          generalize U / 8 = x3 at *
          generalize V / 8 = x4 at *
          generalize D / 8 = x5 at *
          show m' * n' % 8 = (U' * U' + (8 - D') * (V' * V')) % 8
          subst d1 d2 d3 d4 d5
          have e9 : m' * n' - (U' * U' + (8 - D') * (V' * V')) = 8 * (-(8 * x1 * x2) - x1 * n' - m' * x2 + 8 * x3 * x3 + 2 * x3 * U' - x5 * ((8 * x4 + V') * (8 * x4 + V')) - D' * (8 * x4 * x4 + 2 * x4 * V') - V' * V') := by grind
          omega
        exact Int.ofNat.inj z
      rw [beqT key] at h
      cases h
    · have h := of_decide_eq_true h
      rw [t, t, t, sg2_mod, sg2_mod] at h
      exact h
/-! ### the law's prime numbers -/
def trial (p : Int) : Bool := decide (((rgI 2 (rootI p + 1 - 2).toNat).filter (fun q => decide (p % q = 0))).length = 0)
def lawT (d p : Int) : Bool := decide (d % p = 0) && trial p
def lawP (d : Int) : List Int := (rgI 3 ((d.natAbs : Int) + 1 - 3).toNat).filter (lawT d)
def oddL (l : List (Nat × Nat)) : List Nat := (l.map (·.1)).filter fun p => !(p.beq 2)
theorem oddL_len (l : List (Nat × Nat)) : (oddL l).length ≤ l.length := by
  unfold oddL
  refine Nat.le_trans (List.length_filter_le _ _) ?_
  rw [List.length_map]
  exact Nat.le_refl _
theorem sg2_len (r n : Int) : (sg2 r n).length ≤ 2 := by
  unfold sg2
  split
  · exact Nat.le_succ 1
  · split
    · exact Nat.le_succ 1
    · split
      · exact Nat.le_succ 1
      · split
        · exact Nat.le_refl 2
        · exact Nat.zero_le 2
structure GOk (d : Int) (l1 l2 : List (Nat × Nat)) : Prop where
  d0 : d ≠ 0
  hd : d.natAbs ≤ 200
  p1 : ppM d.natAbs = some l1
  p2 : ppM (2 * d).natAbs = some l2
  e2 : ∀ x ∈ l2, EP x.1 ∧ x.1 < 1000
  pr : (l2.map (·.1)).foldl (· * ·) 1 ≤ 400
  two : 2 ∈ l2.map (·.1)
  odd : ∀ p ∈ oddL l1, p ∈ l2.map (·.1) ∧ (p : Int) ∣ d ∧ p < 200 ∧ p ≠ 2
  small : ∀ x ∈ l1, 2 ≤ x.1 ∧ x.1 < 1000
  len : l1.length ≤ 60
  law : lawP d = (oddL l1).map fun (p : Nat) => (p : Int)
def goB (d : Int) : Bool := match ppM d.natAbs, ppM (2 * d).natAbs with
  | some l1, some l2 => (l2.all fun x => epB x.1 && x.1.blt 1000) && Nat.ble ((l2.map (·.1)).foldl (· * ·) 1) 400 && (l2.map (·.1)).contains 2 && ((oddL l1).all fun p => (l2.map (·.1)).contains p && (d.natAbs % p).beq 0 && p.blt 200) &&
      (l1.all fun x => Nat.ble 2 x.1 && x.1.blt 1000) && Nat.ble l1.length 60 && decide (lawP d = (oddL l1).map fun (p : Nat) => (p : Int))
  | _, _ => false
theorem go_of {d : Int} (h : goB d = true) (d0 : d ≠ 0) (hd : d.natAbs ≤ 200) : ∃ l1 l2, GOk d l1 l2 := by
  unfold goB at h
  split at h
  · rename_i l1 l2 h1 h2
    simp only [Bool.and_eq_true] at h
    obtain ⟨⟨⟨⟨⟨⟨c1, c2⟩, c3⟩, c4⟩, c5⟩, c6⟩, c7⟩ := h
    refine ⟨l1, l2, d0, hd, h1, h2, fun x hx => ?_, Nat.le_of_ble_eq_true c2, by simpa using c3, fun p hp => ?_, fun x hx => ?_, Nat.le_of_ble_eq_true c6, of_decide_eq_true c7⟩
    · have := List.all_eq_true.mp c1 x hx
      rw [Bool.and_eq_true] at this
      exact ⟨ep_of this.1, by have := this.2; simpa using this⟩
    · have a := List.all_eq_true.mp c4 p hp
      simp only [Bool.and_eq_true] at a
      obtain ⟨⟨a1, a2⟩, a3⟩ := a
      refine ⟨by simpa using a1, Int.ofNat_dvd_left.mpr (Nat.dvd_of_mod_eq_zero (Nat.eq_of_beq_eq_true a2)), by simpa using a3, ?_⟩
      have := (List.mem_filter.mp hp).2
      rintro rfl
      cases this
    · have := List.all_eq_true.mp c5 x hx
      rw [Bool.and_eq_true] at this
      exact ⟨Nat.le_of_ble_eq_true this.1, by have := this.2; simpa using this⟩
  · cases h
/-- residues by Euler are squares -/
def resT (p : Nat) : Bool := !(epB p) || p.beq 2 || (List.range p).all fun r => r.beq 0 || (resM r p == sqB r p)
def chiE (n : Int) (p : Nat) : Int := if resM (n % (p : Int)).toNat p = true then 1 else -1
theorem nats_odd (n : Int) : ∀ l : List (Nat × Nat), ((nats l).filter fun q => !decide (q.1 = 2)).map (fun q => chiE n q.1.toNat) = (oddL l).map (chiE n)
  | [] => rfl
  | x :: l => by
    have ih := nats_odd n l
    unfold nats oddL at *
    rw [List.map_cons, List.map_cons]
    by_cases z : x.1 = 2
    · rw [List.filter_cons_of_neg (by rw [decide_eq_true (show ((x.1 : Nat) : Int) = 2 by omega)]; decide), List.filter_cons_of_neg (by rw [beqT z]; decide)]
      exact ih
    · rw [List.filter_cons_of_pos (by rw [decide_eq_false (show ¬ ((x.1 : Nat) : Int) = 2 by omega)]; rfl), List.filter_cons_of_pos (by rw [beqF z]; rfl), List.map_cons, List.map_cons, ih]
      rfl
def sqs (p : Int) : List Int := (rgI 0 p.toNat).map fun x => x * x % p
def chiS (n p : Int) : Int := if n % p ∈ sqs p then 1 else -1
theorem sqs_mem {n : Int} {p : Nat} (p0 : 0 < p) : n % (p : Int) ∈ sqs (p : Int) ↔ sqB (n % (p : Int)).toNat p = true := by
  have m0 := Int.emod_nonneg n (show (p : Int) ≠ 0 by omega)
  unfold sqs sqB
  rw [List.mem_map, List.any_eq_true]
  constructor
  · rintro ⟨x, hx, e⟩
    rw [mem_rgI] at hx
    refine ⟨x.toNat, List.mem_range.mpr (by omega), beqT ?_⟩
    have e2 : ((x.toNat * x.toNat % p : Nat) : Int) = n % (p : Int) := by
      rw [Int.natCast_emod, Int.natCast_mul, Int.toNat_of_nonneg hx.1]
      exact e
    omega
  · rintro ⟨x, hx, e⟩
    have e := Nat.eq_of_beq_eq_true e
    refine ⟨(x : Int), mem_rgI.mpr ⟨by omega, by have := List.mem_range.mp hx; omega⟩, ?_⟩
    have e2 : ((x * x % p : Nat) : Int) = n % (p : Int) := by
      rw [e]
      omega
    rw [Int.natCast_emod, Int.natCast_mul] at e2
    exact e2
def sigL (d n : Int) (l1 : List (Nat × Nat)) : List Int := (oddL l1).map (chiE n) ++ (if d % 2 = 0 then sg2 (d / 4 % 8) n else [])
def sigS (d n : Int) : List Int := (lawP d).map (chiS n) ++ (if d % 2 = 0 then sg2 (d / 4 % 8) n else [])
theorem prim_act {a b c m1 m2 m3 m4 : Int} {p : Nat} (h : gI (gI a b) c = 1) (e : EP p) (hd : m1 * m4 - m2 * m3 = 1) : ¬ ((p : Int) ∣ fA a b c m1 m3 ∧ (p : Int) ∣ fB a b c m1 m2 m3 m4 ∧ (p : Int) ∣ fA a b c m2 m4) := by
  rintro ⟨⟨x, hx⟩, ⟨y, hy⟩, ⟨z, hz⟩⟩
  have p0 := e.two
  have ea : a = fA a b c m1 m3 * (m4 * m4) - fB a b c m1 m2 m3 m4 * (m4 * m3) + fA a b c m2 m4 * (m3 * m3) := by
    have : a = a * ((m1 * m4 - m2 * m3) * (m1 * m4 - m2 * m3)) := by rw [hd]; omega
    rw [this]
    unfold fA fB
    grind
  have eb : b = -2 * (fA a b c m1 m3 * (m2 * m4)) + fB a b c m1 m2 m3 m4 * (m1 * m4 + m2 * m3) - 2 * (fA a b c m2 m4 * (m1 * m3)) := by
    have : b = b * ((m1 * m4 - m2 * m3) * (m1 * m4 - m2 * m3)) := by rw [hd]; omega
    rw [this]
    unfold fA fB
    grind
  have ec : c = fA a b c m1 m3 * (m2 * m2) - fB a b c m1 m2 m3 m4 * (m2 * m1) + fA a b c m2 m4 * (m1 * m1) := by
    have : c = c * ((m1 * m4 - m2 * m3) * (m1 * m4 - m2 * m3)) := by rw [hd]; omega
    rw [this]
    unfold fA fB
    grind
  rw [hx, hy, hz] at ea eb ec
  have da : (p : Int) ∣ a := ⟨x * (m4 * m4) - y * (m4 * m3) + z * (m3 * m3), by rw [ea]; grind⟩
  have db : (p : Int) ∣ b := ⟨-2 * (x * (m2 * m4)) + y * (m1 * m4 + m2 * m3) - 2 * (z * (m1 * m3)), by rw [eb]; grind⟩
  have dc : (p : Int) ∣ c := ⟨x * (m2 * m2) - y * (m2 * m1) + z * (m1 * m1), by rw [ec]; grind⟩
  have h1 : p ∣ Nat.gcd (Nat.gcd a.natAbs b.natAbs) c.natAbs := Nat.dvd_gcd (Nat.dvd_gcd (Int.ofNat_dvd_left.mp da) (Int.ofNat_dvd_left.mp db)) (Int.ofNat_dvd_left.mp dc)
  have e1 : Nat.gcd (Nat.gcd a.natAbs b.natAbs) c.natAbs = 1 := by
    have : ((Nat.gcd (Nat.gcd a.natAbs b.natAbs) c.natAbs : Nat) : Int) = 1 := h
    omega
  rw [e1] at h1
  have := Nat.dvd_one.mp h1
  omega
theorem two_vals (a b c x y z w : Int) : 4 * fA a b c x y * fA a b c z w = (2 * a * x * z + b * (x * w + y * z) + 2 * c * y * w) * (2 * a * x * z + b * (x * w + y * z) + 2 * c * y * w) - dsc a b c * ((x * w - y * z) * (x * w - y * z)) := by
  unfold fA dsc
  grind
theorem cop_not {n d : Int} {p : Nat} (h : EP p) (g : gI n (2 * d) = 1) (hd : (p : Int) ∣ 2 * d) : ¬ (p : Int) ∣ n := by
  intro z
  have p0 := h.two
  have h1 : p ∣ Nat.gcd n.natAbs (2 * d).natAbs := Nat.dvd_gcd (Int.ofNat_dvd_left.mp z) (Int.ofNat_dvd_left.mp hd)
  have e : Nat.gcd n.natAbs (2 * d).natAbs = 1 := by
    have : ((Nat.gcd n.natAbs (2 * d).natAbs : Nat) : Int) = 1 := g
    omega
  rw [e] at h1
  have := Nat.dvd_one.mp h1
  omega
theorem sig_same {d a b c x y X Y : Int} {l1 l2 : List (Nat × Nat)} (G : GOk d l1 l2) (hT : ∀ p, p < 200 → resT p = true) (hd : dsc a b c = d) (hn : ∀ p : Nat, p ∈ l2.map (·.1) → ¬ (p : Int) ∣ fA a b c X Y) (g : gI (fA a b c x y) (2 * d) = 1) : sigS d (fA a b c x y) = sigL d (fA a b c X Y) l1 := by
  have tv := two_vals a b c X Y x y
  have tv2 := two_vals a b c x y X Y
  rw [hd] at tv tv2
  generalize fA a b c X Y = m at *
  generalize fA a b c x y = n at *
  have ep : ∀ p : Nat, p ∈ l2.map (·.1) → EP p := fun p hp => by
    obtain ⟨w, hw, rfl⟩ := List.mem_map.mp hp
    exact (G.e2 w hw).1
  unfold sigS sigL
  rw [G.law, List.map_map]
  congr 1
  · refine List.map_congr_left fun p hp => ?_
    obtain ⟨hp2, hpd, hp3, hp4⟩ := G.odd p hp
    have e := ep p hp2
    have p0 := e.two
    have nm := hn p hp2
    have nn := cop_not e g (Int.dvd_trans hpd ⟨2, Int.mul_comm _ _⟩)
    show chiS n (p : Int) = chiE m p
    unfold chiS chiE
    have r0 : (m % (p : Int)).toNat ≠ 0 := by
      have m0 := Int.emod_nonneg m (show (p : Int) ≠ 0 by omega)
      intro z
      exact nm (Int.dvd_of_emod_eq_zero (by omega))
    have r1 : (m % (p : Int)).toNat < p := by
      have m0 := Int.emod_lt_of_pos m (show 0 < (p : Int) by omega)
      omega
    have ht := hT p hp3
    unfold resT at ht
    rw [Bool.or_eq_true, Bool.or_eq_true] at ht
    have hb : epB p = true := by
      unfold epB
      rw [Bool.and_eq_true]
      refine ⟨bleT p0, List.all_eq_true.mpr fun k hk => ?_⟩
      by_cases z : k = 0
      · rw [beqT z]
        rfl
      · rw [beqT (e.co k (by omega) (List.mem_range.mp hk)), Bool.or_true]
    rcases ht with (ht | ht) | ht
    · rw [hb] at ht
      cases ht
    · exact absurd (Nat.eq_of_beq_eq_true ht) hp4
    · have a := List.all_eq_true.mp ht _ (List.mem_range.mpr r1)
      rw [beqF r0, Bool.false_or, beq_iff_eq] at a
      rw [a]
      by_cases z : sqB (m % (p : Int)).toNat p = true
      · rw [if_pos z, if_pos ((sqs_mem (by omega)).mpr (sq_go e hp4 tv hpd nm z))]
      · rw [if_neg z, if_neg (fun w => z (sq_go e hp4 tv2 hpd nn ((sqs_mem (by omega)).mp w)))]
  · by_cases z : d % 2 = 0
    · rw [if_pos z, if_pos z]
      have d4 : d % 4 = 0 := by
        rw [← hd] at z ⊢
        unfold dsc at *
        have hb : b * b % 2 = 0 := by
          rw [Int.mul_assoc] at z
          omega
        have b2 : b % 2 = 0 := by
          rcases Int.emod_two_eq b with w | w
          · exact w
          · rw [Int.mul_emod, w] at hb
            cases hb
        obtain ⟨t, rfl⟩ : ∃ t, b = 2 * t := ⟨b / 2, by omega⟩
        have : 2 * t * (2 * t) - 4 * a * c = 4 * (t * t - a * c) := by grind
        omega
      have e2 := ep 2 G.two
      have m2 : m % 2 = 1 := by
        have := hn 2 G.two
        rcases Int.emod_two_eq m with w | w
        · exact absurd (Int.dvd_of_emod_eq_zero w) this
        · exact w
      have n2 : n % 2 = 1 := by
        have := cop_not e2 g ⟨d, rfl⟩
        rcases Int.emod_two_eq n with w | w
        · exact absurd (Int.dvd_of_emod_eq_zero w) this
        · exact w
      obtain ⟨D, hD⟩ : ∃ D, d = 4 * D := ⟨d / 4, by omega⟩
      have eD : d / 4 = D := by omega
      rw [eD]
      generalize 2 * a * x * X + b * (x * Y + y * X) + 2 * c * y * Y = U at *
      generalize x * Y - y * X = W at *
      have U2 : U % 2 = 0 := by
        have e : U * U = 4 * (n * m + D * (W * W)) := by
          rw [hD] at tv2
          grind
        rcases Int.emod_two_eq U with w | w
        · exact w
        · have : U * U % 2 = 1 := by rw [Int.mul_emod, w]; rfl
          omega
      obtain ⟨u, rfl⟩ : ∃ u, U = 2 * u := ⟨U / 2, by omega⟩
      refine sg2_same (U := u) (V := W) (D := D) ?_ n2 m2
      rw [hD] at tv2
      have e : 4 * (n * m) = 4 * (u * u - D * (W * W)) := by
        have e1 : 4 * n * m = 4 * (n * m) := Int.mul_assoc _ _ _
        rw [← e1, tv2]
        grind
      omega
    · rw [if_neg z, if_neg z]

/-! ### tables for the discriminants that the law draws -/
theorem res_tab : ((List.range 200).all fun p => resT p) = true := by decide +kernel
theorem res_at (p : Nat) (h : p < 200) : resT p = true := List.all_eq_true.mp res_tab p (List.mem_range.mpr h)
theorem len_zero (l : List Int) : decide ((((l.map fun q => q).map V.int).length : Int) = 0) = decide (l.length = 0) := by
  rw [List.length_map, List.length_map, decide_eq_decide]
  omega
def goT (lo : Int) : Bool := (List.range 50).all fun (i : Nat) => decide (lo + (i : Int) = 0) || goB (lo + (i : Int))
theorem go_0 : goT (-200) = true := by decide +kernel
theorem go_1 : goT (-150) = true := by decide +kernel
theorem go_2 : goT (-100) = true := by decide +kernel
theorem go_3 : goT (-50) = true := by decide +kernel
theorem go_4 : goT 0 = true := by decide +kernel
theorem go_5 : goT 50 = true := by decide +kernel
theorem go_6 : goT 100 = true := by decide +kernel
theorem go_7 : goT 150 = true := by decide +kernel
theorem goT_at {lo d : Int} (h : goT lo = true) (h1 : lo ≤ d) (h2 : d < lo + 50) (d0 : d ≠ 0) : goB d = true := by
  have a := List.all_eq_true.mp h (d - lo).toNat (List.mem_range.mpr (by omega))
  rw [show lo + (((d - lo).toNat : Nat) : Int) = d by omega, decide_eq_false d0, Bool.false_or] at a
  exact a
theorem go_at {d : Int} (h1 : -200 ≤ d) (h2 : d < 200) (d0 : d ≠ 0) : goB d = true := by
  by_cases a0 : d < -150
  · exact goT_at go_0 (by omega) (by omega) d0
  by_cases a1 : d < -100
  · exact goT_at go_1 (by omega) (by omega) d0
  by_cases a2 : d < -50
  · exact goT_at go_2 (by omega) (by omega) d0
  by_cases a3 : d < 0
  · exact goT_at go_3 (by omega) (by omega) d0
  by_cases a4 : d < 50
  · exact goT_at go_4 (by omega) (by omega) d0
  by_cases a5 : d < 100
  · exact goT_at go_5 (by omega) (by omega) d0
  by_cases a6 : d < 150
  · exact goT_at go_6 (by omega) (by omega) d0
  · exact goT_at go_7 (by omega) (by omega) d0
section
variable {P : Program} {w : World} {K : PySem.W.Frag} {mg : Str → Option Value} {base : Heap} {fa : Nat → Addr} {fd : Nat → FuncData}
set_option hygiene false
local macro_rules | `(tactic| clean_wf) => `(tactic| (repeat' (first   | with_reducible apply R.var   | with_reducible apply R.gsE   | ((with_reducible apply R.gsN); (focus exact rfl))   | with_reducible apply R.lenS   | ((with_reducible apply R.lenB); exact rfl)   | ((with_reducible apply R.isEq); exact rfl)   | with_reducible apply R.op   | with_reducible apply R.i2   | with_reducible apply R.i0   | with_reducible apply R.con   | with_reducible apply R.cons   | with_reducible apply R.nil   | ((with_reducible apply R.gBd); first | with_reducible assumption | with_reducible apply Bd.mul | with_reducible apply Bd.add | with_reducible apply Bd.sub | ((with_reducible apply Bd.l8); exact eq_true (by decide)) | ((with_reducible apply Bd.lit); exact eq_true (by decide)) | with_reducible apply Bd.neg | with_reducible apply Bd.div | with_reducible apply Bd.abs | with_reducible apply Bd.mod | with_reducible apply Bd.fdiv | ((with_reducible apply Bd.om); omega))   | with_reducible apply Bd.mulW   | ((with_reducible apply R.gSqT); first | with_reducible assumption | ((with_reducible apply SqT.of); with_reducible assumption) | ((with_reducible apply same_seqT); with_reducible assumption) | ((with_reducible apply kp_seqT); with_reducible assumption) | with_reducible apply hU)   | ((with_reducible apply R.isLe); first | decide | omega)   | with_reducible apply R.gcons   | with_reducible apply R.gname   | ((with_reducible apply R.ixT); (focus ((repeat' (first | with_reducible assumption | with_reducible apply hU | ((with_reducible apply SqT.of); with_reducible assumption) | ((with_reducible apply same_seqT); with_reducible assumption) | ((with_reducible apply kp_seqT); with_reducible assumption) | ((with_reducible apply Dw.same); with_reducible assumption))); done)); exact rfl)   | ((with_reducible apply R.ixL); (focus ((repeat' (first | with_reducible assumption | ((with_reducible apply SqL.of); with_reducible assumption) | ((with_reducible apply Same.seq); with_reducible assumption) | ((with_reducible apply Kp.seqL); with_reducible assumption) | ((with_reducible apply fresh_ne); with_reducible assumption) | ((with_reducible apply Dw.same); with_reducible assumption))); done)); exact rfl)   | with_reducible apply R.test   | with_reducible apply R.tb'   | with_reducible apply R.isbl   | with_reducible apply R.cmp   | with_reducible apply R.t2i   | with_reducible apply R.intp   | with_reducible apply R.ifs   | with_reducible apply R.asg   | with_reducible apply R.seq   | with_reducible apply R.gtup   | with_reducible apply R.u1   | with_reducible apply R.un   | with_reducible apply R.ret   | with_reducible apply R.next   | with_reducible apply R.call   | with_reducible apply iteT   | with_reducible apply iteF   | with_reducible assumption   | with_reducible apply R.tup   | with_reducible apply R.lst   | with_reducible apply R.callB   | with_reducible apply R.gnil   | with_reducible apply R.brk   | with_reducible apply R.cont   | with_reducible apply R.drop   | with_reducible apply R.par   | with_reducible apply R.par2   | with_reducible apply R.par3   | with_reducible apply R.par4   | with_reducible apply R.tif   | with_reducible apply R.and   | with_reducible apply R.or   | with_reducible apply R.not   | with_reducible apply R.andV   | with_reducible apply R.orV   | with_reducible apply R.notV   | with_reducible apply R.chain   | with_reducible apply R.tupL   | with_reducible apply R.lstL   | with_reducible apply R.cat   | with_reducible apply R.absI   | with_reducible apply R.intI   | with_reducible apply R.intB   | with_reducible apply R.eqS   | with_reducible apply R.eqBl   | with_reducible apply R.neBl   | with_reducible apply R.sl   | with_reducible apply R.noPart   | with_reducible apply R.part   | with_reducible apply R.isInt   | with_reducible apply R.slL   | with_reducible apply R.isiT   | with_reducible apply R.isiLst   | with_reducible apply R.nwT   | with_reducible apply R.nwL   | ((with_reducible apply R.mt); intro HN tn sn nn ht)   | ((with_reducible apply R.ml); intro HN tn sn nn ht)   | ((with_reducible apply R.isiTupS); focus ((repeat' (first | with_reducible assumption | with_reducible apply hU | ((with_reducible apply SqT.of); with_reducible assumption) | ((with_reducible apply same_seqT); with_reducible assumption) | ((with_reducible apply kp_seqT); with_reducible assumption) | ((with_reducible apply Dw.same); with_reducible assumption))); done))   | ((with_reducible apply R.ne4); focus ((repeat' (first | with_reducible assumption | with_reducible apply hU | ((with_reducible apply SqT.of); with_reducible assumption) | ((with_reducible apply same_seqT); with_reducible assumption) | ((with_reducible apply kp_seqT); with_reducible assumption) | ((with_reducible apply Dw.same); with_reducible assumption))); done))   | ((with_reducible apply R.ne3); focus ((repeat' (first | with_reducible assumption | with_reducible apply hU | ((with_reducible apply SqT.of); with_reducible assumption) | ((with_reducible apply same_seqT); with_reducible assumption) | ((with_reducible apply kp_seqT); with_reducible assumption) | ((with_reducible apply Dw.same); with_reducible assumption))); done))   | ((with_reducible apply R.ne2); focus ((repeat' (first | with_reducible assumption | with_reducible apply hU | ((with_reducible apply SqT.of); with_reducible assumption) | ((with_reducible apply same_seqT); with_reducible assumption) | ((with_reducible apply kp_seqT); with_reducible assumption) | ((with_reducible apply Dw.same); with_reducible assumption))); done))   | ((with_reducible apply R.eq4); focus ((repeat' (first | with_reducible assumption | with_reducible apply hU | ((with_reducible apply SqT.of); with_reducible assumption) | ((with_reducible apply same_seqT); with_reducible assumption) | ((with_reducible apply kp_seqT); with_reducible assumption) | ((with_reducible apply Dw.same); with_reducible assumption))); done))   | ((with_reducible apply R.eq3); focus ((repeat' (first | with_reducible assumption | with_reducible apply hU | ((with_reducible apply SqT.of); with_reducible assumption) | ((with_reducible apply same_seqT); with_reducible assumption) | ((with_reducible apply kp_seqT); with_reducible assumption) | ((with_reducible apply Dw.same); with_reducible assumption))); done))   | ((with_reducible apply R.eq2); focus ((repeat' (first | with_reducible assumption | with_reducible apply hU | ((with_reducible apply SqT.of); with_reducible assumption) | ((with_reducible apply same_seqT); with_reducible assumption) | ((with_reducible apply kp_seqT); with_reducible assumption) | ((with_reducible apply Dw.same); with_reducible assumption))); done))   | ((with_reducible apply R.nw); intro HN tn sn ht)   | with_reducible apply R.notT   | with_reducible apply R.notF   | ((with_reducible apply SqL.of); with_reducible assumption)   | ((with_reducible apply sameB); with_reducible assumption)   | ((with_reducible apply same_at); with_reducible assumption)   | ((with_reducible apply Same.seq); with_reducible assumption)   | ((with_reducible apply Kp.seqL); with_reducible assumption)   | ((with_reducible apply fresh_ne); with_reducible assumption)   | ((with_reducible apply Dw.same); with_reducible assumption)   | ((with_reducible apply R.isEq); exact eq_true (by first | decide | omega))   | ((with_reducible apply R.isLt); first | decide | omega)   | ((with_reducible apply R.isLtI); first | decide | omega)   | ((with_reducible apply R.isLeI); first | decide | omega)   | ((with_reducible apply R.cdiv); exact rfl)   | ((with_reducible apply R.cpow); exact rfl)   | with_reducible apply R.cdivX   | ((with_reducible apply R.isNe); omega)   | ((with_reducible apply wayNF); first | exact rfl | exact ⟨rfl, rfl⟩ | exact ⟨rfl, rfl, rfl⟩ | exact ⟨rfl, rfl, rfl, rfl⟩)   | with_reducible apply R.bm   | ((with_reducible apply R.bmT); (focus ((first | with_reducible assumption | ((with_reducible apply same_at); with_reducible assumption) | ((with_reducible apply kp_at); with_reducible assumption)); done)))   | with_reducible apply R.dput   | with_reducible apply R.dget   | with_reducible apply R.din   | with_reducible apply R.dget2   | with_reducible apply R.forE   | with_reducible apply R.rng1   | with_reducible apply R.rng2   | with_reducible apply R.rg1   | with_reducible apply R.rg2   | with_reducible apply R.lcE   | with_reducible apply R.itup   | with_reducible apply R.ilst   | with_reducible apply uLawNext   | with_reducible apply uLawChange   | with_reducible apply uLawMul   | with_reducible apply uLawWorth   | with_reducible apply uWorth   | with_reducible apply uDiscriminant   | with_reducible apply uLawAct   | with_reducible apply uLawKind   | with_reducible apply uLawSquare   | with_reducible apply uLawRoot   | with_reducible apply uLawMeasure   | with_reducible apply uLawSplit   | with_reducible apply uLawFlat   | fail   )))
local macro_rules | `(tactic| sizeOf_list_dec) => `(tactic| (repeat' (first | with_reducible exact Kp.refl | with_reducible assumption | ((with_reducible apply kpB); first | with_reducible assumption | ((with_reducible apply same_kp); with_reducible assumption)))))
local macro_rules | `(tactic| array_get_dec) => `(tactic| (repeat' (first | with_reducible assumption | ((with_reducible apply SqL.of); with_reducible assumption) | ((with_reducible apply Same.seq); with_reducible assumption) | ((with_reducible apply Kp.seqL); with_reducible assumption) | ((with_reducible apply fresh_ne); with_reducible assumption) | ((with_reducible apply Dw.same); with_reducible assumption))))
local macro_rules | `(tactic| simp_wf) => `(tactic| (repeat' (first | with_reducible assumption | with_reducible apply hU | ((with_reducible apply SqT.of); with_reducible assumption) | ((with_reducible apply same_seqT); with_reducible assumption) | ((with_reducible apply kp_seqT); with_reducible assumption) | ((with_reducible apply Dw.same); with_reducible assumption))))
local macro_rules | `(tactic| array_mem_dec) => `(tactic| (repeat' (first | with_reducible exact Same.refl _ | with_reducible assumption | ((with_reducible apply sameB); with_reducible assumption))))
set_option hygiene true
def spPowerModulo (_ : PySem.W.Frag) : Sp := fun vs H Q _ => ∃ (z : Int) (b e m : Nat), vs = [.int z, .int (e : Int), .int (m : Int)] ∧ 0 < m ∧ m < 2 ^ 64 ∧ e < 2 ^ 64 ∧ z % (m : Int) = ((b % m : Nat) : Int) ∧ Q (.int ((pmod b e m : Nat) : Int)) H
theorem okPowerModulo (T : Txt K mg fa fd) : FnOk P w K mg base CX0 1 (fa 0) (fd 0) ["base", "many", "modulus"] (spPowerModulo K) := by
  refine T.F_power_modulo.ok scPowerModulo (fun vs H Q E h => ?_) (fun cdv A outer s H vs Q E hr h => ?_)
  · obtain ⟨z, b, e, m, rfl, m0, m1, e1, hz, q⟩ := h
    rfl
  · obtain ⟨z, b, e, m, rfl, m0, m1, e1, hz, q⟩ := h
    refine ⟨_, (pss_cons (ps_set (i := 3) scPowerModulo.nd rfl (Or.inl rfl) pe_int)
      (pss_cons (ps_set (i := 4) scPowerModulo.nd rfl (Or.inl rfl) (pe_op op_mod (pv 0) (pv 2)))
      (pss_cons (ps_while PassesOwn.never (pt_cmp (pc_gt (pv 1) pe_int))
      (C8.pss_cut (ps_if (pt_cmp (pc_eqI (pe_op modNN (pv 1) pe_int) pe_int))
        (pss_one (ps_set (i := 3) scPowerModulo.nd rfl (Or.inl rfl) (pe_op modNN (pe_op mulNN (pv 3) (pv 4)) (pv 2))))
        pss_nil)
        (pss_cons (ps_set (i := 4) scPowerModulo.nd rfl (Or.inl rfl) (pe_op modNN (pe_op mulNN (pv 4) (pv 4)) (pv 2)))
        (pss_one (ps_set (i := 1) scPowerModulo.nd rfl (Or.inl rfl) (pe_op divNN (pv 1) pe_int))))))
      (pss_one (ps_ret (pv 3)))))), ?_⟩
    refine ⟨_, rfl, _, rfl, _, _, rfl, rfl, by show (0 : Int) < (m : Int); omega, ?_⟩
    dsimp only
    rw [hz]
    refine ⟨fun t σ H' => ∃ (f r s k : Nat), σ = [some (.int z), some (.int (k : Int)), some (.int (m : Int)), some (.int (r : Int)), some (.int (s : Int))] ∧ t = k ∧ H' = H ∧ k < 2 ^ f ∧ s < m ∧ pmL m f r s k = pmod b e m,
      ⟨_, 64, 1, b % m, e, rfl, rfl, rfl, e1, Nat.mod_lt _ m0, rfl⟩, ?_⟩
    rintro t σ H' ⟨f, r, s, k, rfl, rfl, rfl, hk, hs, hr⟩
    refine ⟨_, rfl, _, _, rfl, rfl, _, rfl, way2 (fun h => ?_) (fun h => ?_)⟩
    · have k0 : t ≠ 0 := by omega
      obtain ⟨g, rfl⟩ : ∃ g, f = g + 1 := ⟨f - 1, by
        cases f with
        | zero => rw [Nat.pow_zero] at hk; omega
        | succ g => omega⟩
      unfold pmL at hr
      rw [bifF (beqF k0)] at hr
      have s64 : s < 2 ^ 64 := Nat.lt_trans hs m1
      refine ⟨fun σ' H2 => ∃ (f r s k : Nat), σ' = [some (.int z), some (.int (k : Int)), some (.int (m : Int)), some (.int (r : Int)), some (.int (s : Int))] ∧ k < t ∧ H2 = H' ∧ k < 2 ^ f ∧ s < m ∧ pmL m f r s k = pmod b e m, ?_, ?_⟩
      · rintro σ' H2 ⟨f, r, s, k, e1, e2, e3, e4⟩
        exact ⟨k, e2, f, r, s, k, e1, rfl, e3, e4⟩
      · refine ⟨fun σ' H2 => σ' = [some (.int z), some (.int (t : Int)), some (.int (m : Int)), some (.int ((bif (t % 2).beq 1 then r * s % m else r : Nat) : Int)), some (.int (s : Int))] ∧ H2 = H', ?_, ?_⟩
        · refine ⟨_, rfl, t, 2, rfl, rfl, by decide, _, _, rfl, rfl, _, rfl, way2 (fun h2 => ?_) (fun h2 => ?_)⟩
          · have e2 : t % 2 = 1 := by omega
            rw [bifT (beqT e2)]
            exact ⟨_, rfl, _, rfl, r, s, rfl, rfl, .inr s64, _, rfl, r * s, m, rfl, rfl, m0, rfl, rfl⟩
          · have e2 : t % 2 ≠ 1 := by omega
            rw [bifF (beqF e2)]
            exact ⟨rfl, rfl⟩
        · rintro σ' H2 ⟨rfl, rfl⟩
          refine ⟨_, rfl, _, rfl, s, s, rfl, rfl, .inr s64, _, rfl, s * s, m, rfl, rfl, m0, ?_⟩
          refine ⟨_, rfl, t, 2, rfl, rfl, div9 (by decide) (by decide), g, _, s * s % m, t / 2, rfl, by omega, rfl, ?_, Nat.mod_lt _ m0, hr⟩
          have e3 : (2 : Nat) ^ (g + 1) = 2 ^ g * 2 := Nat.pow_succ _ _
          omega
    · have k0 : t = 0 := by omega
      subst k0
      refine ⟨_, rfl, ?_⟩
      have e2 : pmL m f r s 0 = r := by
        cases f with
        | zero => rfl
        | succ g => rfl
      rw [e2] at hr
      rw [← hr] at q
      exact q
def spTakenOut (_ : PySem.W.Frag) : Sp := fun vs H Q _ => ∃ n p : Nat, vs = [.int (n : Int), .int (p : Int)] ∧ 0 < n ∧ n < 2 ^ 64 ∧ 2 ≤ p ∧ p < 2 ^ 64 ∧
  ∀ t, H t = none → Q (.ref t) (upd H t (.tup [.int ((takenOut n p).1 : Int), .int ((takenOut n p).2 : Int)]))
theorem okTakenOut (T : Txt K mg fa fd) : FnOk P w K mg base CX0 1 (fa 1) (fd 1) ["n", "p"] (spTakenOut K) := by
  refine T.F_taken_out.ok scTakenOut (fun vs H Q E h => ?_) (fun cdv A outer s H vs Q E hr h => ?_)
  · obtain ⟨n, p, rfl, n0, n1, p0, p1, q⟩ := h
    rfl
  · obtain ⟨n, p, rfl, n0, n1, p0, p1, q⟩ := h
    refine ⟨_, (pss_cons (ps_set (i := 2) scTakenOut.nd rfl (Or.inl rfl) pe_int)
      (pss_cons (ps_while PassesOwn.never (pt_cmp (pc_eqI (pe_op modNN (pv 0) (pv 1)) pe_int))
      (pss_cons (ps_set (i := 0) scTakenOut.nd rfl (Or.inl rfl) (pe_op divNN (pv 0) (pv 1)))
        (pss_one (ps_aug (i := 2) scTakenOut.nd rfl (Or.inl rfl) pe_int ip_add))))
      (pss_one (ps_ret (pe_tup (pa_cons (pv 2) (pa_cons (pv 0) pa_nil))))))), ?_⟩
    refine ⟨fun t σ H' => ∃ (f x k : Nat), σ = [some (.int (x : Int)), some (.int (p : Int)), some (.int (k : Int))] ∧ t = x ∧ H' = H ∧ 0 < x ∧ x < 2 ^ f ∧ toL p f x k = takenOut n p,
      ⟨_, 64, n, 0, rfl, rfl, rfl, n0, n1, rfl⟩, ?_⟩
    rintro t σ H' ⟨f, x, k, rfl, rfl, rfl, x0, x1, hr⟩
    refine ⟨_, rfl, _, rfl, t, p, rfl, rfl, by omega, _, _, rfl, rfl, _, rfl, way2 (fun h => ?_) (fun h => ?_)⟩
    · have k0 : t % p = 0 := by omega
      obtain ⟨g, rfl⟩ : ∃ g, f = g + 1 := ⟨f - 1, by
        cases f with
        | zero => rw [Nat.pow_zero] at x1; omega
        | succ g => omega⟩
      unfold toL at hr
      rw [bifT (beqT k0)] at hr
      have hle : p ≤ t := Nat.le_of_dvd x0 (Nat.dvd_of_mod_eq_zero k0)
      have d0 : 0 < t / p := Nat.div_pos hle (by omega)
      have d1 : t / p ≤ t / 2 := Nat.div_le_div_left p0 (by decide)
      refine ⟨fun σ' H2 => ∃ (f x k : Nat), σ' = [some (.int (x : Int)), some (.int (p : Int)), some (.int (k : Int))] ∧ x < t ∧ H2 = H' ∧ 0 < x ∧ x < 2 ^ f ∧ toL p f x k = takenOut n p, ?_, ?_⟩
      · rintro σ' H2 ⟨f, x, k, e1, e2, e3, e4⟩
        exact ⟨x, e2, f, x, k, e1, rfl, e3, e4⟩
      · refine ⟨_, rfl, _, rfl, t, p, rfl, rfl, div9 (by omega) p1, ?_⟩
        refine ⟨_, rfl, _, _, rfl, rfl, g, t / p, k + 1, rfl, by omega, rfl, d0, ?_, hr⟩
        have e3 : (2 : Nat) ^ (g + 1) = 2 ^ g * 2 := Nat.pow_succ _ _
        omega
    · have k0 : t % p ≠ 0 := by omega
      refine ⟨_, rfl, _, rfl, by show 2 ≤ sizeLine; decide, fun u nu => ?_⟩
      have e2 : toL p f t k = (k, t) := by
        cases f with
        | zero => rfl
        | succ g =>
          unfold toL
          rw [bifF (beqF k0)]
      rw [e2] at hr
      rw [← hr] at q
      exact q u nu
def spBehavesAsPrime (_ : PySem.W.Frag) : Sp := fun vs H Q _ => ∃ n b m o : Nat, vs = [.int (n : Int), .int (b : Int), .int (m : Int), .int (o : Int)] ∧ 1 < n ∧ n < 2 ^ 64 ∧ m < 2 ^ 60 ∧ o < 2 ^ 64 ∧ Q (.bl (behaves n b m o)) H
theorem okBehavesAsPrime (T : Txt K mg fa fd) : FnOk P w K mg base CX0 2 (fa 3) (fd 3) ["n", "base", "many", "odd"] (spBehavesAsPrime K) := by
  refine T.F__behaves_as_prime.ok scBehavesAsPrime (fun vs H Q E h => ?_) (fun cdv A outer s H vs Q E hr h => ?_)
  · obtain ⟨n, b, m, o, rfl, n0, n1, m1, o1, q⟩ := h
    rfl
  · obtain ⟨n, b, m, o, rfl, n0, n1, m1, o1, q⟩ := h
    refine ⟨_, (pss_cons (ps_set (i := 4) scBehavesAsPrime.nd rfl (Or.inl rfl) (pe_call (sp := spPowerModulo K) (okPowerModulo T) hr (by rfl) T.G_power_modulo T.F_power_modulo.kp T.B_power_modulo .nil pass0 (pa_cons (pv 1) (pa_cons (pv 3) (pa_cons (pv 0) pa_nil)))))
      (pss_cons (ps_if (pt_cmp (pc_eqI (pv 4) pe_int))
      (pss_one (ps_ret pe_bl))
      pss_nil)
      (pss_cons (ps_for PassesOwn.never rfl (pi_range1 (by rfl) T.m_range (pa_cons (pv 2) pa_nil)) (pg_name (i := 5) scBehavesAsPrime.nd rfl (Or.inl rfl))
      (pss_cons (ps_if (pt_cmp (pc_eqI (pv 4) (pe_op op_subN (pv 0) pe_int)))
        (pss_one (ps_ret pe_bl))
        pss_nil)
        (pss_one (ps_set (i := 4) scBehavesAsPrime.nd rfl (Or.inl rfl) (pe_op modNN (pe_op mulNN (pv 4) (pv 4)) (pv 0))))))
      (pss_one (ps_ret pe_bl))))), ?_⟩
    have m1' : m < 1152921504606846976 := m1
    refine ⟨_, rfl, _, rfl, _, rfl, (b : Int), b, o, n, rfl, by omega, n1, o1, (Int.natCast_emod b n).symm, ?_⟩
    unfold behaves at q
    refine ⟨_, rfl, _, _, rfl, rfl, _, rfl, way2 (fun h => ?_) (fun h => ?_)⟩
    · have e : pmod b o n = 1 := by omega
      rw [bifT (beqT e)] at q
      exact q
    · have e : pmod b o n ≠ 1 := by omega
      rw [bifF (beqF e)] at q
      refine ⟨_, rfl, _, rfl, by omega, by omega, ?_⟩
      have em : ((m : Nat) : Int).toNat = m := rfl
      rw [em]
      generalize hR : behL n m (pmod b o n) = R at q
      refine for_range (lo := 0) (n := m) (fun i σ H' => ∃ (x : Nat) (x5 : Option V), σ = [some (.int (n : Int)), some (.int (b : Int)), some (.int (m : Int)), some (.int (o : Int)), some (.int (x : Int)), x5] ∧ H' = H ∧ i ≤ m ∧ x < n ∧ behL n (m - i) x = R)
        ⟨pmod b o n, none, rfl, rfl, Nat.zero_le _, pmod_lt n0, hR⟩ (fun i σ H' hi ⟨x, x5, e1, e2, e3, e4, e5⟩ => ?_) (fun σ H' ⟨x, x5, e1, e2, e3, e4, e5⟩ => ?_)
      · subst e1 e2
        obtain ⟨g, hg⟩ : ∃ g, m - i = g + 1 := ⟨m - i - 1, by omega⟩
        rw [hg] at e5
        unfold behL at e5
        refine ⟨_, rfl, _, rfl, n, 1, rfl, rfl, by omega, _, _, rfl, rfl, _, rfl, way2 (fun h => ?_) (fun h => ?_)⟩
        · have ex : x = n - 1 := by omega
          rw [bifT (beqT ex)] at e5
          rw [← e5] at q
          exact q
        · have ex : x ≠ n - 1 := by omega
          rw [bifF (beqF ex)] at e5
          have eg : m - (i + 1) = g := by omega
          refine ⟨_, rfl, _, rfl, x, x, rfl, rfl, .inl (Nat.lt_trans e4 n1), _, rfl, x * x, n, rfl, rfl, by omega, x * x % n, _, rfl, rfl, by omega, Nat.mod_lt _ (by omega), ?_⟩
          rw [eg]
          exact e5
      · subst e1 e2
        rw [Nat.sub_self] at e5
        unfold behL at e5
        rw [← e5] at q
        exact q
def spIsPrime (_ : PySem.W.Frag) : Sp := fun vs H Q _ => ∃ n : Nat, vs = [.int (n : Int)] ∧ n < 2 ^ 60 ∧ ∀ H', Same H H' → Q (.bl (isPrimeM n)) H'
theorem byW_app (n : Nat) : ∀ (xs ys : List Nat), byW n xs = none → byW n (xs ++ ys) = byW n ys
  | [], _, _ => rfl
  | p :: r, ys, h => by
    unfold byW at h
    show byW n (p :: (r ++ ys)) = _
    rw [byW]
    cases e : (n % p).beq 0 with
    | true =>
      rw [e] at h
      cases h
    | false =>
      rw [e] at h
      exact byW_app n r ys h
theorem toL_fst {p : Nat} : ∀ {f n k : Nat}, (toL p f n k).1 ≤ k + f
  | 0, n, k => Nat.le_refl _
  | f + 1, n, k => by
    unfold toL
    cases (n % p).beq 0 with
    | true =>
      have h := toL_fst (p := p) (f := f) (n := n / p) (k := k + 1)
      show (toL p f (n / p) (k + 1)).1 ≤ k + (f + 1)
      omega
    | false => show k ≤ k + (f + 1); omega
theorem okIsPrime (T : Txt K mg fa fd) : FnOk P w K mg base CX0 3 (fa 2) (fd 2) ["n"] (spIsPrime K) := by
  refine T.F_is_prime.ok scIsPrime (fun vs H Q E h => ?_) (fun cdv A outer s H vs Q E hr h => ?_)
  · obtain ⟨n, rfl, n1, q⟩ := h
    rfl
  · obtain ⟨n, rfl, n1, q⟩ := h
    refine ⟨_, (pss_cons (ps_if (pt_cmp (pc_lt (pv 0) pe_int))
      (pss_one (ps_ret pe_bl))
      pss_nil)
      (pss_cons (ps_for PassesOwn.never rfl (piT K (pe_glob (v := .ref (fa 30)) (by rfl) T.g_WITNESSES rfl)) (pg_name (i := 1) scIsPrime.nd rfl (Or.inl rfl))
      (pss_one (ps_if (pt_cmp (pc_eqI (pe_op modNN (pv 0) (pv 1)) pe_int))
        (pss_one (ps_ret (pe_cmp (pc_eqI (pv 0) (pv 1)))))
        pss_nil)))
      (pss_cons (ps_asg (pe_call (sp := spTakenOut K) (okTakenOut T) (hr.mono (by decide)) (by rfl) T.G_taken_out T.F_taken_out.kp T.B_taken_out .nil pass0 (pa_cons (pe_op op_subN (pv 0) pe_int) (pa_cons pe_int pa_nil))) (pgT K 2 (by rfl) (pgs_cons (pg_name (i := 2) scIsPrime.nd rfl (Or.inl rfl)) (pgs_cons (pg_name (i := 3) scIsPrime.nd rfl (Or.inl rfl)) pgs_nil))))
      (pss_cons (ps_for PassesOwn.never rfl (piT K (pe_glob (v := .ref (fa 30)) (by rfl) T.g_WITNESSES rfl)) (pg_name (i := 4) scIsPrime.nd rfl (Or.inl rfl))
      (pss_one (ps_if (pt_not (pt_val (pe_call (sp := spBehavesAsPrime K) (okBehavesAsPrime T) hr (by rfl) T.G__behaves_as_prime T.F__behaves_as_prime.kp T.B__behaves_as_prime .nil pass0 (pa_cons (pv 0) (pa_cons (pv 4) (pa_cons (pv 2) (pa_cons (pv 3) pa_nil)))))))
        (pss_one (ps_ret pe_bl))
        pss_nil)))
      (pss_one (ps_ret pe_bl)))))), ?_⟩
    have n1' : n < 1152921504606846976 := n1
    have n64 : n < 2 ^ 64 := Nat.lt_trans n1 (by decide)
    unfold isPrimeM at q
    refine ⟨_, rfl, _, _, rfl, rfl, _, rfl, way2 (fun h => ?_) (fun h => ?_)⟩
    · have e : n ≤ 1 := by omega
      rw [bifT (bleT e)] at q
      exact q H (Same.refl H)
    · have e : ¬ n ≤ 1 := by omega
      rw [bifF (bleF e)] at q
      have hW := T.S_WITNESSES
      refine ⟨_, rfl, ⟨_, hW H⟩, for_tup (K := K) (xs := (wits.map fun (x : Nat) => V.int (x : Int))) (fun i σ H' => ∃ x1, σ = [some (.int (n : Int)), x1, none, none, none] ∧ H' = H ∧ byW n (wits.take i) = none) ⟨none, rfl, rfl, rfl⟩ (fun i σ H' hi ⟨x1, e1, e2, e3⟩ => hW H') (fun i x σ H' hx ⟨x1, e1, e2, e3⟩ => ?_) (fun σ H' ⟨x1, e1, e2, e3⟩ => ?_)⟩
      · subst e1 e2
        rw [List.getElem?_map] at hx
        cases hn : wits[i]? with
        | none =>
          rw [hn] at hx
          cases hx
        | some p =>
          rw [hn] at hx
          cases hx
          have pw : p ∈ wits := List.mem_of_getElem? hn
          have p0 : 0 < p := (by decide : ∀ x ∈ wits, 0 < x) p pw
          have tk : wits.take (i + 1) = wits.take i ++ [p] := by
            rw [List.take_add_one, hn]
            rfl
          refine ⟨_, rfl, _, rfl, n, p, rfl, rfl, p0, _, _, rfl, rfl, _, rfl, way2 (fun h2 => ?_) (fun h2 => ?_)⟩
          · have e4 : n % p = 0 := by omega
            have e5 : byW n wits = some (n.beq p) := by
              have sp : wits = wits.take i ++ (p :: wits.drop (i + 1)) := by
                have h5 := List.getElem?_eq_some_iff.mp hn
                obtain ⟨h6, h7⟩ := h5
                rw [← h7, ← List.drop_eq_getElem_cons h6, List.take_append_drop]
              rw [sp, byW_app _ _ _ e3, byW, bifT (beqT e4)]
            rw [e5] at q
            refine ⟨_, rfl, _, rfl, _, _, rfl, rfl, ?_⟩
            have e6 : decide ((n : Int) = (p : Int)) = n.beq p := by
              by_cases z : n = p
              · rw [decide_eq_true (by omega), beqT z]
              · rw [decide_eq_false (by omega), beqF z]
            dsimp only
            rw [e6]
            exact q _ (Same.refl _)
          · have e4 : n % p ≠ 0 := by omega
            refine ⟨_, rfl, rfl, ?_⟩
            rw [tk, byW_app _ _ _ e3, byW, bifF (beqF e4)]
            rfl
      · subst e1 e2
        have e5 : byW n wits = none := by
          rw [List.length_map, List.take_length] at e3
          exact e3
        rw [e5] at q
        have z1 : 0 < n - 1 := by omega
        refine ⟨_, rfl, n, 1, rfl, rfl, by omega, n - 1, 2, rfl, z1, by omega, by decide, by decide, fun t nt => ?_⟩
        have od := toL_pos (p := 2) (by decide) (f := 64) (k := 0) z1
        have mn := toL_fst (p := 2) (f := 64) (n := n - 1) (k := 0)
        change 0 < (takenOut (n - 1) 2).2 ∧ (takenOut (n - 1) 2).2 ≤ n - 1 at od
        change (takenOut (n - 1) 2).1 ≤ 0 + 64 at mn
        refine ⟨t, _, rfl, SqT.of upd_same, rfl, _, _, rfl, _, _, rfl, rfl, ?_⟩
        generalize hf : (fun b => behaves n b (takenOut (n - 1) 2).1 (takenOut (n - 1) 2).2) = f at q
        have hf2 : ∀ b, behaves n b (takenOut (n - 1) 2).1 (takenOut (n - 1) 2).2 = f b := fun b => by rw [← hf]
        generalize (takenOut (n - 1) 2).1 = m at hf2 mn ⊢
        generalize (takenOut (n - 1) 2).2 = o at hf2 od ⊢
        have q2 : ∀ H'', Q (.bl (wits.all f)) H'' → True := fun _ _ => trivial
        refine ⟨_, rfl, ⟨_, hW _⟩, for_tup (K := K) (xs := (wits.map fun (x : Nat) => V.int (x : Int))) (fun i σ H2 => ∃ x4, σ = [some (.int (n : Int)), x1, some (.int (m : Int)), some (.int (o : Int)), x4] ∧ Same H' H2 ∧ (wits.take i).all f = true) ⟨none, rfl, same_upd nt, rfl⟩ (fun i σ H2 hi ⟨x4, e1, e2, e3⟩ => hW H2) (fun i x σ H2 hx ⟨x4, e1, e2, e6⟩ => ?_) (fun σ H2 ⟨x4, e1, e2, e6⟩ => ?_)⟩
        · subst e1
          rw [List.getElem?_map] at hx
          cases hn : wits[i]? with
          | none =>
            rw [hn] at hx
            cases hx
          | some b =>
            rw [hn] at hx
            cases hx
            have tk : wits.take (i + 1) = wits.take i ++ [b] := by
              rw [List.take_add_one, hn]
              rfl
            refine ⟨_, rfl, _, rfl, _, rfl, _, rfl, n, b, m, o, rfl, by omega, n64, Nat.lt_of_le_of_lt mn (by decide), by omega, _, rfl, ?_⟩
            rw [hf2]
            cases hb : f b with
            | false =>
              refine iteT ?_
              have e7 : wits.all f = false := by
                rw [Bool.eq_false_iff]
                intro z
                have z2 := List.all_eq_true.mp z b (List.mem_of_getElem? hn)
                rw [hb] at z2
                cases z2
              rw [e7] at q
              exact q H2 e2
            | true =>
              refine iteF ⟨_, rfl, e2, ?_⟩
              rw [tk, List.all_append, e6, List.all_cons, hb]
              rfl
        · subst e1
          rw [List.length_map, List.take_length] at e6
          rw [e6] at q
          exact q H2 e2
def spLeastMeasure (_ : PySem.W.Frag) : Sp := fun vs H Q _ => ∃ n s q : Nat, vs = [.int (n : Int), .int (s : Int)] ∧ n < 2 ^ 60 ∧ s < 2 ^ 60 ∧ leastM n s = some q ∧ Q (.int (q : Int)) H
theorem PIp_of {X : Cx} {op : Operator} {r : R2} (h : OpR X (inplaceOp op) r) : PIp X op r := h
theorem okLeastMeasure (T : Txt K mg fa fd) : FnOk P w K mg base CX0 1 (fa 5) (fd 5) ["n", "start"] (spLeastMeasure K) := by
  refine T.F__least_measure.ok scLeastMeasure (fun vs H Q E h => ?_) (fun cdv A outer s H vs Q E hr h => ?_)
  · obtain ⟨n, s, q, rfl, n1, s1, hm, Qd⟩ := h
    rfl
  · obtain ⟨n, s, q, rfl, n1, s1, hm, Qd⟩ := h
    refine ⟨_, (pss_cons (ps_if (pt_cmp (pc_eqI (pe_op modNN (pv 0) pe_int) pe_int))
      (pss_one (ps_ret pe_int))
      pss_nil)
      (pss_cons (ps_set (i := 2) scLeastMeasure.nd rfl (Or.inl rfl) (pe_callB (call_max2 rfl) (by rfl) T.m_max (by decide +kernel) (pa_cons pe_int (pa_cons (pv 1) pa_nil))))
      (pss_cons (ps_while PassesOwn.never (pt_cmp (pc_neI (pe_op modNN (pv 0) (pv 2)) pe_int))
      (pss_one (ps_aug (i := 2) scLeastMeasure.nd rfl (Or.inl rfl) pe_int (PIp_of iop_addN))))
      (pss_one (ps_ret (pv 2)))))), ?_⟩
    unfold leastM at hm
    refine ⟨_, rfl, n, 2, rfl, rfl, by decide, _, _, rfl, rfl, _, rfl, way2 (fun h => ?_) (fun h => ?_)⟩
    · have e : n % 2 = 0 := by omega
      rw [bifT (beqT e)] at hm
      cases hm
      exact Qd
    · have e : n % 2 ≠ 0 := by omega
      rw [bifF (beqF e)] at hm
      refine ⟨_, rfl, _, _, rfl, ?_⟩
      have e2 : (if (s : Int) > 3 then (s : Int) else 3) = ((bif s.ble 3 then 3 else s : Nat) : Int) := by
        by_cases z : s ≤ 3
        · rw [bifT (bleT z), if_neg (by omega)]
          rfl
        · rw [bifF (bleF z), if_pos (by omega)]
      dsimp only
      rw [e2]
      have st : (bif s.ble 3 then 3 else s) < 2 ^ 60 ∧ 0 < (bif s.ble 3 then 3 else s) := by
        by_cases z : s ≤ 3
        · rw [bifT (bleT z)]
          exact ⟨by decide, by decide⟩
        · rw [bifF (bleF z)]
          exact ⟨s1, by omega⟩
      generalize (bif s.ble 3 then 3 else s) = x0 at hm st ⊢
      have n1' : n < 1152921504606846976 := n1
      have st1 : x0 < 1152921504606846976 := st.1
      refine ⟨fun t σ H' => ∃ (f x : Nat), σ = [some (.int (n : Int)), some (.int (s : Int)), some (.int (x : Int))] ∧ t = f ∧ H' = H ∧ 0 < x ∧ leastL n f x = some q, ⟨_, n, x0, rfl, rfl, rfl, st.2, hm⟩, ?_⟩
      rintro t σ H' ⟨f, x, rfl, rfl, rfl, x2, hr⟩
      refine ⟨_, rfl, _, rfl, n, x, rfl, rfl, x2, _, _, rfl, rfl, _, rfl, ?_⟩
      obtain ⟨g, rfl⟩ : ∃ g, t = g + 1 := by
        cases t with
        | zero => cases hr
        | succ g => exact ⟨g, rfl⟩
      unfold leastL at hr
      refine wayN2 (fun h => ?_) (fun h => ?_)
      · have k0 : n % x ≠ 0 := by omega
        rw [bifF (beqF k0)] at hr
        refine ⟨fun σ' H2 => σ' = [some (.int (n : Int)), some (.int (s : Int)), some (.int ((x + 2 : Nat) : Int))] ∧ H2 = H', ?_, ?_⟩
        · rintro σ' H2 ⟨e1, e2⟩
          exact ⟨g, by omega, g, x + 2, e1, rfl, e2, by omega, hr⟩
        · exact ⟨_, rfl, x, 2, rfl, rfl, rfl, rfl⟩
      · have k0 : n % x = 0 := by omega
        rw [bifT (beqT k0)] at hr
        cases hr
        exact ⟨_, rfl, Qd⟩
def spPrimeParts (_ : PySem.W.Frag) : Sp := fun vs H Q _ => ∃ (n : Nat) (l : List (Nat × Nat)), vs = [.int (n : Int)] ∧ 0 < n ∧ n < 2 ^ 59 ∧ ppM n = some l ∧
  ∀ H' r as, Same H H' → H r = none → H' r = some (.lst (as.map V.ref)) → Prs H' as (nats l) → as.length ≤ 100 → Q (.ref r) H'
theorem leastL_dvd {n q : Nat} : ∀ {f x : Nat}, 0 < x → leastL n f x = some q → n % q = 0 ∧ x ≤ q
  | 0, x, _, h => by cases h
  | f + 1, x, h0, h => by
    unfold leastL at h
    by_cases e : n % x = 0
    · rw [bifT (beqT e)] at h
      cases h
      exact ⟨e, Nat.le_refl _⟩
    · rw [bifF (beqF e)] at h
      obtain ⟨a, b⟩ := leastL_dvd (by omega) h
      exact ⟨a, by omega⟩
theorem leastM_dvd {n s q : Nat} (h : leastM n s = some q) : n % q = 0 ∧ 2 ≤ q := by
  unfold leastM at h
  by_cases e : n % 2 = 0
  · rw [bifT (beqT e)] at h
    cases h
    exact ⟨e, Nat.le_refl _⟩
  · rw [bifF (beqF e)] at h
    have z : 3 ≤ (bif s.ble 3 then 3 else s) := by
      by_cases y : s ≤ 3
      · rw [bifT (bleT y)]
        exact Nat.le_refl _
      · rw [bifF (bleF y)]
        omega
    obtain ⟨a, b⟩ := leastL_dvd (by omega) h
    exact ⟨a, by omega⟩
theorem okPrimeParts (T : Txt K mg fa fd) : FnOk P w K mg base CX0 4 (fa 4) (fd 4) ["n"] (spPrimeParts K) := by
  refine T.F_prime_parts.ok scPrimeParts (fun vs H Q E h => ?_) (fun cdv A outer s H vs Q E hr h => ?_)
  · obtain ⟨n, l, rfl, n0, n1, hm, q⟩ := h
    rfl
  · obtain ⟨n, l, rfl, n0, n1, hm, q⟩ := h
    refine ⟨_, (pss_cons (ps_set (i := 1) scPrimeParts.nd rfl (Or.inl rfl) (pe_lst pa_nil))
      (pss_cons (ps_set (i := 2) scPrimeParts.nd rfl (Or.inl rfl) (pv 0))
      (pss_cons (ps_set (i := 3) scPrimeParts.nd rfl (Or.inl rfl) pe_int)
      (pss_cons (ps_while PassesOwn.never (pt_cmp (pc_gt (pv 2) pe_int))
      (C8.pss_cut (ps_set (i := 3) scPrimeParts.nd rfl (Or.inl rfl) (pe_ifExp (pt_val (pe_call (sp := spIsPrime K) (okIsPrime T) hr (by rfl) T.G_is_prime T.F_is_prime.kp T.B_is_prime .nil pass0 (pa_cons (pv 2) pa_nil))) (pv 2) (pe_call (sp := spLeastMeasure K) (okLeastMeasure T) (hr.mono (by decide)) (by rfl) T.G__least_measure T.F__least_measure.kp T.B__least_measure .nil pass0 (pa_cons (pv 2) (pa_cons (pv 3) pa_nil)))))
        (pss_cons (ps_asg (pe_call (sp := spTakenOut K) (okTakenOut T) (hr.mono (by decide)) (by rfl) T.G_taken_out T.F_taken_out.kp T.B_taken_out .nil pass0 (pa_cons (pv 2) (pa_cons (pv 3) pa_nil))) (pgT K 2 (by rfl) (pgs_cons (pg_name (i := 4) scPrimeParts.nd rfl (Or.inl rfl)) (pgs_cons (pg_name (i := 2) scPrimeParts.nd rfl (Or.inl rfl)) pgs_nil))))
        (pss_one (ps_expr (pe_bm PySem.F.plainAttrs_list PySem.F.slot_list_append PySem.F.type_list_append mt_append (pv 1) (pa_cons (pe_tup (pa_cons (pv 3) (pa_cons (pv 4) pa_nil))) pa_nil)))))))
      (pss_one (ps_ret (pv 1))))))), ?_⟩
    refine ⟨Nat.zero_le _, fun r nr => ?_⟩
    have n1' : n < 576460752303423488 := n1
    refine ⟨_, rfl, fun t σ H' => ∃ (f x p : Nat) (x4 : Option V) (as : List Addr) (done rest : List (Nat × Nat)), σ = [some (.int (n : Int)), some (.ref r), some (.int (x : Int)), some (.int (p : Int)), x4] ∧ t = f ∧ Same H H' ∧ H' r = some (.lst (as.map V.ref)) ∧ Prs H' as (nats done) ∧ 0 < x ∧ x ≤ n ∧ 0 < p ∧ p ≤ n + 2 ∧ done.length + f = 70 ∧ ppL f x p = some rest ∧ l = done ++ rest,
      ⟨70, 70, n, 2, none, [], [], l, rfl, rfl, same_upd nr, upd_same, .nil, n0, Nat.le_refl _, by omega, by omega, rfl, hm, rfl⟩, ?_⟩
    rintro t σ H' ⟨f, x, p, x4, as, done, rest, rfl, rfl, hs, hr, hp, x0, x1, p0, p1, hl, hpp, hll⟩
    obtain ⟨g, rfl⟩ : ∃ g, t = g + 1 := by
      cases t with
      | zero => cases hpp
      | succ g => exact ⟨g, rfl⟩
    unfold ppL at hpp
    refine ⟨_, rfl, _, _, rfl, rfl, _, rfl, way2 (fun h => ?_) (fun h => ?_)⟩
    · have e : ¬ x ≤ 1 := by omega
      rw [bifF (bleF e)] at hpp
      refine ⟨fun σ' H2 => ∃ (f x p : Nat) (x4 : Option V) (as : List Addr) (done rest : List (Nat × Nat)), σ' = [some (.int (n : Int)), some (.ref r), some (.int (x : Int)), some (.int (p : Int)), x4] ∧ f < g + 1 ∧ Same H H2 ∧ H2 r = some (.lst (as.map V.ref)) ∧ Prs H2 as (nats done) ∧ 0 < x ∧ x ≤ n ∧ 0 < p ∧ p ≤ n + 2 ∧ done.length + f = 70 ∧ ppL f x p = some rest ∧ l = done ++ rest, ?_, ?_⟩
      · rintro σ' H2 ⟨f, x, p, x4, as, done, rest, e1, e2, e3⟩
        exact ⟨f, e2, f, x, p, x4, as, done, rest, e1, rfl, e3⟩
      · cases hq : (bif isPrimeM x then some x else leastM x p) with
        | none =>
          rw [hq] at hpp
          cases hpp
        | some q2 =>
          rw [hq] at hpp
          refine ⟨fun σ' H2 => σ' = [some (.int (n : Int)), some (.ref r), some (.int (x : Int)), some (.int (q2 : Int)), x4] ∧ Same H' H2, ?_, ?_⟩
          · refine ⟨_, rfl, x, rfl, by show x < 1152921504606846976; omega, fun H3 s3 => ⟨_, rfl, ?_⟩⟩
            cases hi : isPrimeM x with
            | true =>
              rw [hi] at hq
              cases hq
              exact iteT ⟨_, rfl, rfl, s3⟩
            | false =>
              rw [hi] at hq
              exact iteF ⟨_, rfl, _, rfl, x, p, q2, rfl, by show x < 1152921504606846976; omega, by show p < 1152921504606846976; omega, hq, rfl, s3⟩
          · rintro σ' H2 ⟨rfl, s2⟩
            have q0 : x % q2 = 0 ∧ 2 ≤ q2 := by
              cases hi : isPrimeM x with
              | true =>
                rw [hi] at hq
                cases hq
                exact ⟨Nat.mod_self x, by omega⟩
              | false =>
                rw [hi] at hq
                exact leastM_dvd hq
            have q1 : q2 ≤ x := Nat.le_of_dvd x0 (Nat.dvd_of_mod_eq_zero q0.1)
            have x64 : x < 2 ^ 64 := by show x < 18446744073709551616; omega
            have q64 : q2 < 2 ^ 64 := Nat.lt_of_le_of_lt q1 x64
            refine ⟨_, rfl, _, rfl, x, q2, rfl, x0, x64, q0.2, q64, fun u nu => ?_⟩
            have su := same_upd (o := .tup [.int ((takenOut x q2).1 : Int), .int ((takenOut x q2).2 : Int)]) nu
            refine ⟨u, _, rfl, SqT.of upd_same, rfl, _, _, rfl, _, _, rfl, rfl, ?_⟩
            have od := toL_pos (p := q2) q0.2 (f := 64) (k := 0) x0
            change 0 < (takenOut x q2).2 ∧ (takenOut x q2).2 ≤ x at od
            have hr2 := su _ _ (s2 _ _ hr)
            refine ⟨_, rfl, .inl ⟨rfl, _, SqL.of hr2⟩, _, rfl, _, rfl, by show 2 ≤ sizeLine; decide, fun w nw => ?_⟩
            have sw := same_upd (o := .tup [.int (q2 : Int), .int ((takenOut x q2).1 : Int)]) nw
            have hr3 := sw _ _ hr2
            refine ⟨_, _, _, rfl, rfl, hr3, ?_, ?_⟩
            · rw [List.length_map, hp.len]
              unfold nats
              rw [List.length_map]
              exact small1000 (by omega)
            cases hl2 : ppL g (takenOut x q2).2 q2 with
            | none =>
              simp only [hl2] at hpp
              cases hpp
            | some l2 =>
              simp only [hl2] at hpp
              cases hpp
              have sall := (s2.trans su).trans sw
              refine ⟨g, (takenOut x q2).2, q2, _, as ++ [w], done ++ [(q2, (takenOut x q2).1)], l2, rfl, by omega, same_mut (hs.trans sall) nr, ?_, ?_, od.1, by omega, by omega, by omega, ?_, hl2, ?_⟩
              · rw [upd_same, List.map_append]
                rfl
              · have e7 : nats (done ++ [(q2, (takenOut x q2).1)]) = nats done ++ [((q2 : Int), ((takenOut x q2).1 : Int))] := by
                  unfold nats
                  rw [List.map_append]
                  rfl
                rw [e7]
                refine ((hp.same sall).mono fun b xs e2 => ?_).snoc ?_
                · rw [upd_ne (ne_of e2 hr3 (by intro z; cases z))]
                  exact e2
                · rw [upd_ne (ne_of upd_same hr3 (by intro z; cases z))]
                  exact upd_same
              · rw [List.length_append, List.length_cons, List.length_nil]
                omega
              · rw [hll, List.append_assoc]
                rfl
    · have e : x ≤ 1 := by omega
      rw [bifT (bleT e)] at hpp
      cases hpp
      rw [List.append_nil] at hll
      subst hll
      refine ⟨_, rfl, q H' r as hs nr hr hp ?_⟩
      rw [hp.len]
      unfold nats
      rw [List.length_map]
      omega
def spDiscriminant (K : PySem.W.Frag) : Sp := fun vs H Q _ => ∃ (aform : Addr) (a b c : Int) (N : Nat), vs = [.ref aform] ∧ SqT K H aform [.int a, .int b, .int c] ∧ Bd N a ∧ Bd N b ∧ Bd N c ∧ N ≤ 400000 ∧ (Q (.int (b * b - 4 * a * c)) H)
theorem uDiscriminant {K : PySem.W.Frag} {H : Hp} {Q : VK} {E : XK} {vs : List V} {aform : Addr} {a b c : Int} {n0 n1 n2 : Nat} (hev : vs = [.ref aform]) (s0 : SqT K H aform [.int a, .int b, .int c]) (b0 : Bd n0 a) (b1 : Bd n1 b) (b2 : Bd n2 c) (hll : (n0 + n1 + n2 ≤ 400000) = True) (kk : Q (.int (b * b - 4 * a * c)) H) : spDiscriminant K vs H Q E :=
  have hll := of_eq_true hll
  ⟨aform, a, b, c, n0 + n1 + n2, hev, s0, b0.mono (by omega), b1.mono (by omega), b2.mono (by omega), hll, kk⟩
theorem okDiscriminant (T : Txt K mg fa fd) : FnOk P w K mg base CX0 1 (fa 6) (fd 6) ["form"] (spDiscriminant K) := by
  refine T.F_discriminant.ok scDiscriminant (fun vs H Q E h => ?_) (fun cdv A outer s H vs Q E hr h => ?_)
  · obtain ⟨aform, a, b, c, N, rfl, h_aform, b_a, b_b, b_c, hN, kk⟩ := h
    rfl
  · obtain ⟨aform, a, b, c, N, rfl, h_aform, b_a, b_b, b_c, hN, kk⟩ := h
    refine ⟨_, (pss_cons (ps_asg (pv 0) (pgT K 3 (by rfl) (pgs_cons (pg_name (i := 1) scDiscriminant.nd rfl (Or.inl rfl)) (pgs_cons (pg_name (i := 2) scDiscriminant.nd rfl (Or.inl rfl)) (pgs_cons (pg_name (i := 3) scDiscriminant.nd rfl (Or.inl rfl)) pgs_nil)))))
      (pss_one (ps_ret (pe_op op_sub (pe_op op_mulW (pv 2) (pv 2)) (pe_op op_mulW (pe_op op_mulW pe_int (pv 1)) (pv 3)))))), ?_⟩
    clean_wf
    all_goals first | omega | exact kk | (refine kk _ _ ?_ (by assumption); (repeat' (first | with_reducible exact Same.refl _ | with_reducible assumption | ((with_reducible apply sameB); with_reducible assumption))))
def spWorth (K : PySem.W.Frag) : Sp := fun vs H Q _ => ∃ (aform apoint : Addr) (a b c x y : Int) (N : Nat), vs = [.ref aform, .ref apoint] ∧ SqT K H aform [.int a, .int b, .int c] ∧ SqT K H apoint [.int x, .int y] ∧ Bd N a ∧ Bd N b ∧ Bd N c ∧ Bd N x ∧ Bd N y ∧ N ≤ 300000 ∧ (Q (.int (a * x * x + b * x * y + c * y * y)) H)
theorem uWorth {K : PySem.W.Frag} {H : Hp} {Q : VK} {E : XK} {vs : List V} {aform apoint : Addr} {a b c x y : Int} {n0 n1 n2 n3 n4 : Nat} (hev : vs = [.ref aform, .ref apoint]) (s0 : SqT K H aform [.int a, .int b, .int c]) (s1 : SqT K H apoint [.int x, .int y]) (b0 : Bd n0 a) (b1 : Bd n1 b) (b2 : Bd n2 c) (b3 : Bd n3 x) (b4 : Bd n4 y) (hll : (n0 + n1 + n2 + n3 + n4 ≤ 300000) = True) (kk : Q (.int (a * x * x + b * x * y + c * y * y)) H) : spWorth K vs H Q E :=
  have hll := of_eq_true hll
  ⟨aform, apoint, a, b, c, x, y, n0 + n1 + n2 + n3 + n4, hev, s0, s1, b0.mono (by omega), b1.mono (by omega), b2.mono (by omega), b3.mono (by omega), b4.mono (by omega), hll, kk⟩
theorem okWorth (T : Txt K mg fa fd) : FnOk P w K mg base CX0 1 (fa 7) (fd 7) ["form", "point"] (spWorth K) := by
  refine T.F_worth.ok scWorth (fun vs H Q E h => ?_) (fun cdv A outer s H vs Q E hr h => ?_)
  · obtain ⟨aform, apoint, a, b, c, x, y, N, rfl, h_aform, h_apoint, b_a, b_b, b_c, b_x, b_y, hN, kk⟩ := h
    rfl
  · obtain ⟨aform, apoint, a, b, c, x, y, N, rfl, h_aform, h_apoint, b_a, b_b, b_c, b_x, b_y, hN, kk⟩ := h
    refine ⟨_, (pss_cons (ps_asg (pv 0) (pgT K 3 (by rfl) (pgs_cons (pg_name (i := 2) scWorth.nd rfl (Or.inl rfl)) (pgs_cons (pg_name (i := 3) scWorth.nd rfl (Or.inl rfl)) (pgs_cons (pg_name (i := 4) scWorth.nd rfl (Or.inl rfl)) pgs_nil)))))
      (pss_cons (ps_asg (pv 1) (pgT K 2 (by rfl) (pgs_cons (pg_name (i := 5) scWorth.nd rfl (Or.inl rfl)) (pgs_cons (pg_name (i := 6) scWorth.nd rfl (Or.inl rfl)) pgs_nil))))
      (pss_one (ps_ret (pe_op op_add (pe_op op_add (pe_op op_mulW (pe_op op_mulW (pv 2) (pv 5)) (pv 5)) (pe_op op_mulW (pe_op op_mulW (pv 3) (pv 5)) (pv 6))) (pe_op op_mulW (pe_op op_mulW (pv 4) (pv 6)) (pv 6))))))), ?_⟩
    clean_wf
    all_goals first | omega | exact kk | (refine kk _ _ ?_ (by assumption); (repeat' (first | with_reducible exact Same.refl _ | with_reducible assumption | ((with_reducible apply sameB); with_reducible assumption))))
def spPointApart (K : PySem.W.Frag) : Sp := fun vs H Q _ => ∃ (af : Addr) (a b c z : Int) (l : List (Nat × Nat)), vs = [.ref af, .int z] ∧ SqT K H af [.int a, .int b, .int c] ∧ z ≠ 0 ∧ z.natAbs < 100000 ∧ ppM z.natAbs = some l ∧ (∀ x ∈ l, 1 ≤ x.1 ∧ x.1 < 1000) ∧ Bd 60 a ∧ Bd 60 c ∧
  ∀ H' t, Same H H' → H' t = some (.tup [.int (ptF a c (l.map (·.1))).1, .int (ptF a c (l.map (·.1))).2]) → Q (.ref t) H'
theorem okPointApart (T : Txt K mg fa fd) : FnOk P w K mg base CX0 5 (fa 8) (fd 8) ["form", "number"] (spPointApart K) := by
  refine T.F_point_apart.ok scPointApart (fun vs H Q E h => ?_) (fun cdv A outer s H vs Q E hr h => ?_)
  · obtain ⟨af, a, b, c, z, l, rfl, hs, z0, z1, hl, hp, ba, bc, kk⟩ := h
    rfl
  · obtain ⟨af, a, b, c, z, l, rfl, hs, z0, z1, hl, hp, ba, bc, kk⟩ := h
    refine ⟨_, (pss_cons (ps_asg (pv 0) (pgT K 3 (by rfl) (pgs_cons (pg_name (i := 2) scPointApart.nd rfl (Or.inl rfl)) (pgs_cons (pg_name (i := 3) scPointApart.nd rfl (Or.inl rfl)) (pgs_cons (pg_name (i := 4) scPointApart.nd rfl (Or.inl rfl)) pgs_nil)))))
      (pss_cons (ps_asg2 pe_int (pg_name (i := 5) scPointApart.nd rfl (Or.inl rfl)) (pg_name (i := 6) scPointApart.nd rfl (Or.inl rfl)))
      (pss_cons (ps_for PassesOwn.never rfl (piL K (pe_call (sp := spPrimeParts K) (okPrimeParts T) hr (by rfl) T.G_prime_parts T.F_prime_parts.kp T.B_prime_parts .nil pass0 (pa_cons (pe_callB (absQ K) (by rfl) T.m_abs (by decide +kernel) (pa_cons (pv 1) pa_nil)) pa_nil))) (pgT K 2 (by rfl) (pgs_cons (pg_name (i := 7) scPointApart.nd rfl (Or.inl rfl)) (pgs_cons (pg_name (i := 3) scPointApart.nd rfl (Or.inl rfl)) pgs_nil)))
      (pss_one (ps_if (pt_cmp (pc_neI (pe_op op_mod (pv 2) (pv 7)) pe_int))
        (pss_one (ps_set (i := 6) scPointApart.nd rfl (Or.inl rfl) (pe_op op_mulW (pv 6) (pv 7))))
        (pss_one (ps_if (pt_cmp (pc_neI (pe_op op_mod (pv 4) (pv 7)) pe_int))
          (pss_one (ps_set (i := 5) scPointApart.nd rfl (Or.inl rfl) (pe_op op_mulW (pv 5) (pv 7))))
          pss_nil)))))
      (pss_one (ps_ret (pe_tup (pa_cons (pv 5) (pa_cons (pv 6) pa_nil)))))))), ?_⟩
    clean_wf
    refine R.asg2 ?_
    clean_wf
    refine ⟨z.natAbs, l, rfl, by omega, Nat.lt_trans z1 (by decide), hl, ?_⟩
    intro H1 r as s1 nr hr ps has
    clean_wf
    have hpl := ps.len
    have hnl : (nats l).length = l.length := List.length_map _
    refine R.refs (S := SqL K _) (xs := as.map V.ref) (SqL.of hr) ?_
    refine for_list (K := K) (a := r) (xs := as.map V.ref) (fun i σ H2 => ∃ (x3 x7 : Option V), σ = [some (.ref af), some (.int z), some (.int a), x3, some (.int c), some (.int (ptF a c ((l.take i).map (·.1))).1), some (.int (ptF a c ((l.take i).map (·.1))).2), x7] ∧ Same H1 H2)
      ⟨_, _, rfl, Same.refl _⟩ (fun i σ H2 hi hPv => ?_) (fun i x σ H2 hx hPv => ?_) (fun σ H2 hPv => ?_)
    · obtain ⟨x3, x7, rfl, smn⟩ := hPv
      exact smn.seq (SqL.of hr)
    · obtain ⟨x3, x7, rfl, smn⟩ := hPv
      rw [List.getElem?_map] at hx
      have hi : i < l.length := by
        cases hh : as[i]? with
        | none =>
          rw [hh] at hx
          cases hx
        | some w =>
          have := (List.getElem?_eq_some_iff.mp hh).1
          omega
      have hli : l[i]? = some (l[i]'hi) := List.getElem?_eq_getElem hi
      obtain ⟨ax, hax, hax2⟩ := ps.at (i := i) (p := (((l[i]'hi).1 : Int), ((l[i]'hi).2 : Int))) (by
        unfold nats
        rw [List.getElem?_map, hli]
        rfl)
      rw [hax] at hx
      cases hx
      have hpp := hp (l[i]'hi) (List.getElem_mem hi)
      have e1 : (l.take (i + 1)).map (·.1) = (l.take i).map (·.1) ++ [(l[i]'hi).1] := by
        rw [List.take_add_one, hli, List.map_append]
        rfl
      rw [e1]
      have e2 : ptF a c ((l.take i).map (·.1) ++ [(l[i]'hi).1]) = ptS a c (ptF a c ((l.take i).map (·.1))) (l[i]'hi).1 := by
        unfold ptF
        rw [List.foldl_append]
        rfl
      rw [e2]
      have hsz := pt_size (a := a) (c := c) ((l.take i).map (·.1)) (1, 1) 1 (fun q hq => by
        obtain ⟨w, hw, rfl⟩ := List.mem_map.mp hq
        exact (hp w (List.mem_of_mem_take hw)).1) (by decide) (by decide)
      have hpb := prod_bd ((l.take i).map (·.1)) 1 0 (fun q hq => by
        obtain ⟨w, hw, rfl⟩ := List.mem_map.mp hq
        exact (hp w (List.mem_of_mem_take hw)).2) (by decide)
      rw [List.length_map, List.length_take] at hpb
      have hmi : 10 * min i l.length + 1 ≤ 1001 := by omega
      have bX : Bd 1001 (ptF a c ((l.take i).map (·.1))).1 := Nat.lt_of_le_of_lt hsz.1 (Nat.lt_of_lt_of_le hpb (Nat.pow_le_pow_right (by decide) (by omega)))
      have bY : Bd 1001 (ptF a c ((l.take i).map (·.1))).2 := Nat.lt_of_le_of_lt hsz.2 (Nat.lt_of_lt_of_le hpb (Nat.pow_le_pow_right (by decide) (by omega)))
      generalize ptF a c ((l.take i).map (·.1)) = s at *
      obtain ⟨X, Y⟩ := s
      dsimp only at bX bY
      have sx := same_at smn hax2
      have p0 : 0 < ((l[i]'hi).1 : Int) := by omega
      have bp : Bd 60 ((l[i]'hi).1 : Int) := Bd.om (by omega)
      generalize (l[i]'hi).1 = pn at *
      generalize (l[i]'hi).2 = kn at *
      unfold ptS
      clean_wf
      refine wayN2 (fun y => ?_) (fun y => ?_)
      · rw [if_neg y]
        clean_wf
        exact ⟨_, _, rfl, smn⟩
      · rw [if_pos y]
        clean_wf
        refine wayN2 (fun y2 => ?_) (fun y2 => ?_)
        · rw [if_neg y2]
          clean_wf
          exact ⟨_, _, rfl, smn⟩
        · rw [if_pos y2]
          clean_wf
          exact ⟨_, _, rfl, smn⟩
    · obtain ⟨x3, x7, rfl, smn⟩ := hPv
      rw [show (as.map V.ref).length = l.length by rw [List.length_map]; omega, List.take_length]
      clean_wf
      refine kk _ _ ?_ ht
      array_mem_dec
def spIsResidue (_ : PySem.W.Frag) : Sp := fun vs H Q _ => ∃ (z : Int) (b p : Nat), vs = [.int z, .int (p : Int)] ∧ 1 < p ∧ p < 2 ^ 60 ∧ z % (p : Int) = ((b % p : Nat) : Int) ∧ Q (.bl (resM b p)) H
theorem dec_beq {a b : Nat} : decide ((a : Int) = (b : Int)) = a.beq b := by
  by_cases z : a = b
  · rw [decide_eq_true (by omega), beqT z]
  · rw [decide_eq_false (by omega), beqF z]
theorem okIsResidue (T : Txt K mg fa fd) : FnOk P w K mg base CX0 2 (fa 9) (fd 9) ["d", "p"] (spIsResidue K) := by
  refine T.F_is_residue.ok scIsResidue (fun vs H Q E h => ?_) (fun cdv A outer s H vs Q E hr h => ?_)
  · obtain ⟨z, b, p, rfl, p0, p1, hz, q⟩ := h
    rfl
  · obtain ⟨z, b, p, rfl, p0, p1, hz, q⟩ := h
    refine ⟨_, (pss_one (ps_ret (pe_cmp (pc_eqI (pe_call (sp := spPowerModulo K) (okPowerModulo T) hr (by rfl) T.G_power_modulo T.F_power_modulo.kp T.B_power_modulo .nil pass0 (pa_cons (pv 0) (pa_cons (pe_op divNN (pe_op op_subN (pv 1) pe_int) pe_int) (pa_cons (pv 1) pa_nil)))) pe_int)))), ?_⟩
    have p1' : p < 1152921504606846976 := p1
    refine ⟨_, rfl, _, rfl, p, 1, rfl, rfl, by omega, p - 1, 2, rfl, rfl, div9 (by decide) (by decide), _, rfl, z, b, (p - 1) / 2, p, rfl, by omega, Nat.lt_trans p1 (by decide), by show _ < 18446744073709551616; omega, hz, _, _, rfl, rfl, ?_⟩
    have e : decide (((pmod b ((p - 1) / 2) p : Nat) : Int) = 1) = resM b p := dec_beq (b := 1)
    dsimp only
    rw [e]
    exact q
def spSignsAt2 (K : PySem.W.Frag) : Sp := fun vs H Q _ => ∃ r n : Int, vs = [.int r, .int n] ∧ 0 ≤ r ∧ r < 8 ∧ ∀ H' l, Same H H' → H l = none → H' l = some (.lst ((sg2 r n).map V.int)) → Q (.ref l) H'
theorem okSignsAt2 (T : Txt K mg fa fd) : FnOk P w K mg base CX0 1 (fa 11) (fd 11) ["rest", "n"] (spSignsAt2 K) := by
  refine T.F__signs_at_2.ok scSignsAt2 (fun vs H Q E h => ?_) (fun cdv A outer s H vs Q E hr h => ?_)
  · obtain ⟨r, n, rfl, r0, r1, kk⟩ := h
    rfl
  · obtain ⟨r, n, rfl, r0, r1, kk⟩ := h
    refine ⟨_, (C8.pss_cut (ps_set (i := 2) scSignsAt2.nd rfl (Or.inl rfl) (pe_ifExp (pt_cmp (pc_eqI (pe_op op_mod (pv 1) pe_int) pe_int)) pe_int (pe_un un_neg pe_int)))
      (C8.pss_cut (ps_set (i := 3) scSignsAt2.nd rfl (Or.inl rfl) (pe_ifExp (pt_cmpR (inSQ K) (pe_op op_mod (pv 1) pe_int) (pe_tup (pa_cons pe_int (pa_cons pe_int pa_nil))) (by with_unfolding_all rfl)) pe_int (pe_un un_neg pe_int)))
      (pss_cons (ps_if (pt_cmpR (inSQ K) (pv 0) (pe_tup (pa_cons pe_int (pa_cons pe_int (pa_cons pe_int pa_nil)))) (by with_unfolding_all rfl))
      (pss_one (ps_ret (pe_lst (pa_cons (pv 2) pa_nil))))
      pss_nil)
      (pss_cons (ps_if (pt_cmp (pc_eqI (pv 0) pe_int))
      (pss_one (ps_ret (pe_lst (pa_cons (pe_op op_mulW (pv 2) (pv 3)) pa_nil))))
      pss_nil)
      (pss_cons (ps_if (pt_cmp (pc_eqI (pv 0) pe_int))
      (pss_one (ps_ret (pe_lst (pa_cons (pv 3) pa_nil))))
      pss_nil)
      (pss_cons (ps_if (pt_cmp (pc_eqI (pv 0) pe_int))
      (pss_one (ps_ret (pe_lst (pa_cons (pv 2) (pa_cons (pv 3) pa_nil)))))
      pss_nil)
      (pss_one (ps_ret (pe_lst pa_nil))))))))), ?_⟩
    have hf : fo n = if n % 4 = 1 then 1 else -1 := rfl
    have he : ei n = if n % 8 = 1 ∨ n % 8 = 7 then 1 else -1 := rfl
    have bf : Bd 8 (fo n) := by
      rw [hf]
      split <;> (unfold Bd; decide)
    have be : Bd 8 (ei n) := by
      rw [he]
      split <;> (unfold Bd; decide)
    have m2 : n % 8 ∈ ([1, 7] : List Int) ↔ n % 8 = 1 ∨ n % 8 = 7 := by simp
    have m3 : r ∈ ([3, 4, 7] : List Int) ↔ r = 3 ∨ r = 4 ∨ r = 7 := by simp
    refine R.cut (Mid := fun σ H' => σ = [some (.int r), some (.int n), some (.int (fo n)), none] ∧ H' = H) ?_ (fun σ H' hM => ?_)
    · skip
      clean_wf
      by_cases z : n % 4 = 1
      · rw [decide_eq_true z]
        rw [if_pos z] at hf
        clean_wf
        rw [hf]
        exact ⟨rfl, rfl⟩
      · rw [decide_eq_false z]
        rw [if_neg z] at hf
        clean_wf
        rw [hf]
        exact ⟨rfl, rfl⟩
    obtain ⟨rfl, rfl⟩ := hM
    refine R.cut (Mid := fun σ H'' => σ = [some (.int r), some (.int n), some (.int (fo n)), some (.int (ei n))] ∧ Same H' H'') ?_ (fun σ H'' hM => ?_)
    · skip
      clean_wf
      refine R.inI (ns := [1, 7]) (.inr (SqT.of ht)) ?_
      clean_wf
      by_cases z : n % 8 = 1 ∨ n % 8 = 7
      · rw [decide_eq_true (m2.mpr z)]
        rw [if_pos z] at he
        clean_wf
        rw [he]
        exact ⟨rfl, sn⟩
      · rw [decide_eq_false (fun h => z (m2.mp h))]
        rw [if_neg z] at he
        clean_wf
        rw [he]
        exact ⟨rfl, sn⟩
    obtain ⟨rfl, sm⟩ := hM
    clear hf he
    have k1 := kk
    unfold sg2 at k1
    clean_wf
    refine R.inI (ns := [3, 4, 7]) (.inr (SqT.of ht)) ?_
    have s2 := sm.trans sn
    clear ht sn sm
    clean_wf
    refine way2 (fun z => ?_) (fun z => ?_)
    · rw [if_pos (m3.mp z)] at k1
      clean_wf
      exact k1 _ _ (s2.trans sn) (none_of s2 nn) ht
    rw [if_neg (fun h => z (m3.mpr h))] at k1
    clean_wf
    refine way2 (fun z2 => ?_) (fun z2 => ?_)
    · rw [if_pos z2] at k1
      clean_wf
      exact k1 _ _ (s2.trans sn) (none_of s2 nn) ht
    rw [if_neg z2] at k1
    clean_wf
    refine way2 (fun z3 => ?_) (fun z3 => ?_)
    · rw [if_pos z3] at k1
      clean_wf
      exact k1 _ _ (s2.trans sn) (none_of s2 nn) ht
    rw [if_neg z3] at k1
    clean_wf
    refine way2 (fun z4 => ?_) (fun z4 => ?_)
    · rw [if_pos z4] at k1
      clean_wf
      exact k1 _ _ (s2.trans sn) (none_of s2 nn) ht
    rw [if_neg z4] at k1
    clean_wf
    exact k1 _ _ (s2.trans sn) (none_of s2 nn) ht
def spGenus (K : PySem.W.Frag) : Sp := fun vs H Q _ => ∃ (af : Addr) (a b c : Int) (l1 l2 : List (Nat × Nat)), vs = [.ref af] ∧ SqT K H af [.int a, .int b, .int c] ∧ GOk (dsc a b c) l1 l2 ∧ Bd 60 a ∧ Bd 60 b ∧ Bd 60 c ∧
  ∀ H' t, Same H H' → H' t = some (.tup ((sigL (dsc a b c) (fA a b c (ptF a c (l2.map (·.1))).1 (ptF a c (l2.map (·.1))).2) l1).map V.int)) → Q (.ref t) H'
theorem okGenus (T : Txt K mg fa fd) : FnOk P w K mg base CX0 6 (fa 10) (fd 10) ["form"] (spGenus K) := by
  refine T.F_genus.ok scGenus (fun vs H Q E h => ?_) (fun cdv A outer s H vs Q E hr h => ?_)
  · obtain ⟨af, a, b, c, l1, l2, rfl, hs, G, ba, bb, bc, kk⟩ := h
    rfl
  · obtain ⟨af, a, b, c, l1, l2, rfl, hs, G, ba, bb, bc, kk⟩ := h
    refine ⟨_, (pss_cons (ps_set (i := 1) scGenus.nd rfl (Or.inl rfl) (pe_call (sp := spDiscriminant K) (okDiscriminant T) (hr.mono (by decide)) (by rfl) T.G_discriminant T.F_discriminant.kp T.B_discriminant .nil pass0 (pa_cons (pv 0) pa_nil)))
      (pss_cons (ps_set (i := 2) scGenus.nd rfl (Or.inr rfl) (pe_call (sp := spWorth K) (okWorth T) (hr.mono (by decide)) (by rfl) T.G_worth T.F_worth.kp T.B_worth .nil pass0 (pa_cons (pv 0) (pa_cons (pe_call (sp := spPointApart K) (okPointApart T) hr (by rfl) T.G_point_apart T.F_point_apart.kp T.B_point_apart .nil pass0 (pa_cons (pv 0) (pa_cons (pe_op op_mulW pe_int (pv 1)) pa_nil))) pa_nil))))
      (pss_cons (ps_setLc (i := 3) (own := [("p", 4), ("_", 5)])   rfl scGenus.nd rfl rfl (sw_true rfl rfl rfl (by decide +kernel)) (piL K (pe_call (sp := spPrimeParts K) (okPrimeParts T) (hr.mono (by decide)) (by rfl) T.G_prime_parts T.F_prime_parts.kp T.B_prime_parts .nil pass0 (pa_cons (pe_callB (absQ K) (by rfl) T.m_abs (by decide +kernel) (pa_cons (pv 1) pa_nil)) pa_nil))) (blkOk_by (own := [("p", 4), ("_", 5)]) (N := ["form", "d", "n", "signs", "p", "_"]) (sc := defScope sGenus) (by decide +kernel)) (fun _ _ _ _ _ => (pgT K 2 (by rfl) (pgs_cons (pg_name (i := 4) scGenus.nd rfl (Or.inl rfl)) (pgs_cons (pg_name (i := 5) scGenus.nd rfl (Or.inl rfl)) pgs_nil)))) (fun _ _ _ _ _ => (pts_one (pt_cmp (pc_neI (pv 4) pe_int)))) (fun _ _ _ _ _ => (pe_ifExp (pt_val (pe_call (sp := spIsResidue K) (okIsResidue T) (hr.mono (by decide)) (by rfl) T.G_is_residue T.F_is_residue.kp T.B_is_residue .nil pass0 (pa_cons (pv 2) (pa_cons (pv 4) pa_nil)))) pe_int (pe_un un_neg pe_int))))
      (C8.pss_cut (ps_if (pt_cmp (pc_eqI (pe_op op_mod (pv 1) pe_int) pe_int))
      (pss_one (ps_expr (pe_bm PySem.F.plainAttrs_list PySem.F.slot_list_extend PySem.F.type_list_extend mt_extend (pv 3) (pa_cons (pe_call (sp := spSignsAt2 K) (okSignsAt2 T) (hr.mono (by decide)) (by rfl) T.G__signs_at_2 T.F__signs_at_2.kp T.B__signs_at_2 .nil pass0 (pa_cons (pe_op op_mod (pe_op op_fdiv (pv 1) pe_int) pe_int) (pa_cons (pv 2) pa_nil))) pa_nil))))
      pss_nil)
      (pss_one (ps_ret (pe_callTy (tupQ K) (by rfl) T.m_tuple (by decide +kernel) (pa_cons (pv 3) pa_nil)))))))), ?_⟩
    have ed : b * b - 4 * a * c = dsc a b c := rfl
    have hd1 := G.hd
    have hd0 := G.d0
    clean_wf
    rw [ed]
    have bd : Bd 60 (dsc a b c) := Bd.om (by omega)
    have b2d : (2 * dsc a b c).natAbs < 100000 := by omega
    clean_wf
    have hU9 := hs
    refine ⟨af, a, b, c, 2 * dsc a b c, l2, rfl, hs, by omega, b2d, G.p2, fun x hx => ⟨by have := (G.e2 x hx).1.two; omega, (G.e2 x hx).2⟩, ba, bc, ?_⟩
    intro H1 t1 s1 ht1
    have hsz := pt_size (a := a) (c := c) (l2.map (·.1)) (1, 1) 1 (fun q hq => by
      obtain ⟨w, hw, rfl⟩ := List.mem_map.mp hq
      have := (G.e2 w hw).1.two
      omega) (by decide) (by decide)
    have hpr := G.pr
    change (ptF a c (l2.map (·.1))).1.natAbs ≤ _ ∧ (ptF a c (l2.map (·.1))).2.natAbs ≤ _ at hsz
    generalize ptF a c (l2.map (·.1)) = s at *
    obtain ⟨X, Y⟩ := s
    dsimp only at ht1 kk hsz
    have bX : Bd 60 X := Bd.om (by omega)
    have bY : Bd 60 Y := Bd.om (by omega)
    have hs1 := same_seqT s1 hs
    have st1 := SqT.of (K := K) ht1
    clean_wf
    have ef : a * X * X + b * X * Y + c * Y * Y = fA a b c X Y := rfl
    rw [ef]
    generalize fA a b c X Y = n at *
    refine ⟨(dsc a b c).natAbs, l1, rfl, by omega, by omega, G.p1, ?_⟩
    intro H2 r as s2 nr hr ps has
    have hll := G.len
    have hnl : (nats l1).length = l1.length := List.length_map _
    refine R.refs (S := SqL K _) (xs := as.map V.ref) (SqL.of hr) ?_
    refine R.lcFP (fun q => !decide (q.1 = 2)) (fun q => chiE n q.1.toNat) (by omega) (SqL.of hr) ps (fun q ax H' C E hq smx hax kp kn => ?_) (fun H3 D hD s3 nD => ?_)
    · obtain ⟨w, hw, rfl⟩ := List.mem_map.mp hq
      obtain ⟨w2, w3⟩ := G.small w hw
      have sx := SqT.of (K := K) hax
      dsimp only at kp kn sx
      clean_wf
      refine ⟨rfl, ?_⟩
      clean_wf
      refine wayN2 (fun y => ?_) (fun y => ?_)
      · have kp := kp (by rw [decide_eq_false y]; rfl)
        have m0 := Int.emod_nonneg n (show ((w.1 : Nat) : Int) ≠ 0 by omega)
        have m1 := Int.emod_lt_of_pos n (show 0 < ((w.1 : Nat) : Int) by omega)
        clean_wf
        refine ⟨n, (n % ((w.1 : Nat) : Int)).toNat, w.1, rfl, by omega, Nat.lt_trans w3 (by decide), by rw [Nat.mod_eq_of_lt (by omega)]; omega, ?_⟩
        rw [show (((w.1 : Nat) : Int)).toNat = w.1 from rfl] at kp
        unfold chiE at kp
        clean_wf
        by_cases z : resM (n % ((w.1 : Nat) : Int)).toNat w.1 = true
        · rw [if_pos z]
          rw [if_pos z] at kp
          clean_wf
        · rw [if_neg z]
          rw [if_neg z] at kp
          clean_wf
      · have kn := kn (by rw [decide_eq_true y]; rfl)
        clean_wf
    rw [nats_odd] at hD
    clean_wf
    refine R.cut (Mid := fun σ H' => ∃ (x4 x5 : Option V), σ = [some (.ref af), some (.int (dsc a b c)), some (.int n), some (.ref D), x4, x5] ∧ Same H H' ∧ H' D = some (.lst ((sigL (dsc a b c) n l1).map V.int))) ?_ (fun σ H' hM => ?_)
    · skip
      clean_wf
      refine way2 (fun z => ?_) (fun z => ?_)
      · skip
        clean_wf
        have r0 := Int.emod_nonneg (dsc a b c / 4) (show (8 : Int) ≠ 0 by decide)
        have r1 := Int.emod_lt_of_pos (dsc a b c / 4) (show (0 : Int) < 8 by decide)
        refine ⟨_, _, rfl, r0, r1, ?_⟩
        intro H4 l4 s4 nl4 hl4
        clean_wf
        refine R.extend (s4 _ _ hD) hl4 ?_ (fun H5 e5 h5 => ?_)
        · rw [List.length_map, List.length_map, List.length_map]
          have h1 := oddL_len l1
          have h2 := sg2_len (dsc a b c / 4 % 8) n
          omega
        refine ⟨_, _, rfl, ?_, ?_⟩
        · rw [e5]
          exact same_mut ((s1.trans (s2.trans s3)).trans s4) (none_of (s1.trans s2) nD)
        · rw [h5]
          unfold sigL
          rw [if_pos z, List.map_append]
      · skip
        clean_wf
        refine ⟨_, _, rfl, s1.trans (s2.trans s3), ?_⟩
        unfold sigL
        rw [if_neg z, List.append_nil]
        exact hD
    · obtain ⟨x4, x5, rfl, sm, hD2⟩ := hM
      clean_wf
      refine kk _ _ ?_ ht
      array_mem_dec
def spLawCell (K : PySem.W.Frag) : Sp := fun vs H Q _ => ∃ (l : Addr) (ns : List Int) (j : Nat), vs = [.ref l, .int (j : Int)] ∧ SqL K H l (ns.map V.int) ∧ ∀ v : Int, Q (.int v) H
theorem okLawCell (T : Txt K mg fa fd) : FnOk P w K mg base CX0 1 (fa 12) (fd 12) ["script", "k"] (spLawCell K) := by
  refine T.F__law_cell.ok scLawCell (fun vs H Q E h => ?_) (fun cdv A outer s H vs Q E hr h => ?_)
  · obtain ⟨l, ns, j, rfl, hS, q⟩ := h
    rfl
  · obtain ⟨l, ns, j, rfl, hS, q⟩ := h
    refine ⟨_, (pss_cons (ps_if (pt_cmp (pc_lt (pv 1) (pe_callB (lenQ K) (by rfl) T.m_len (by decide +kernel) (pa_cons (pv 0) pa_nil))))
      (pss_one (ps_ret (pe_ix (ixL K) (pv 0) (pv 1) (fun _ _ => rfl))))
      pss_nil)
      (pss_one (ps_ret pe_int))), ?_⟩
    refine ⟨_, rfl, _, rfl, _, _, rfl, .inl hS, _, _, rfl, rfl, _, rfl, ite2 (fun e => ?_) (fun e => ?_)⟩
    · have e1 : (j : Int) < ((ns.map V.int).length : Int) := of_decide_eq_true e
      have hj : j < ns.length := by
        rw [List.length_map] at e1
        omega
      exact ⟨_, rfl, _, rfl, _, _, _, _, rfl, rfl, hS, atI_nat (by rw [List.getElem?_map, List.getElem?_eq_getElem hj]; rfl), q _⟩
    · exact q 0
def spLawNumbers (K : PySem.W.Frag) : Sp := fun vs H Q _ => ∃ (c : Int) (m : Nat), vs = [.int c, .int (m : Int)] ∧ m ≤ 100 ∧
  ∀ H' p (ns : List Int), Same H H' → H p = none → H' p = some (.lst (ns.map V.int)) → ns.length = m → (∀ n ∈ ns, 0 ≤ n ∧ n < 1000) → Q (.ref p) H'
theorem okLawNumbers (T : Txt K mg fa fd) : FnOk P w K mg base CX0 1 (fa 13) (fd 13) ["cell", "many"] (spLawNumbers K) := by
  refine T.F__law_numbers.ok scLawNumbers (fun vs H Q E h => ?_) (fun cdv A outer s H vs Q E hr h => ?_)
  · obtain ⟨c, m, rfl, hm, q⟩ := h
    rfl
  · obtain ⟨c, m, rfl, hm, q⟩ := h
    refine ⟨_, (pss_cons (ps_set (i := 2) scLawNumbers.nd rfl (Or.inl rfl) (pe_callB (absQ K) (by rfl) T.m_abs (by decide +kernel) (pa_cons (pv 0) pa_nil)))
      (pss_cons (ps_set (i := 3) scLawNumbers.nd rfl (Or.inl rfl) (pv 2))
      (pss_cons (ps_set (i := 4) scLawNumbers.nd rfl (Or.inl rfl) (pe_lst pa_nil))
      (pss_cons (ps_for PassesOwn.never rfl (pi_range1 (by rfl) T.m_range (pa_cons (pv 1) pa_nil)) (pg_name (i := 5) scLawNumbers.nd rfl (Or.inl rfl))
      (pss_one (ps_if (PW.pt (pw_and (pt_cmp (pc_ge (pv 3) (pe_op op_pow pe_int pe_int))) (pw_and1 (pt_cmp (pc_gt (pv 2) pe_int)))))
        (pss_cons (ps_expr (pe_bm PySem.F.plainAttrs_list PySem.F.slot_list_append PySem.F.type_list_append mt_append (pv 4) (pa_cons (pe_op op_mod (pe_callTy (intQ K) (by rfl) T.m_int (by decide +kernel) (pa_cons (pv 2) pa_nil)) pe_int) pa_nil)))
          (pss_one (ps_set (i := 2) scLawNumbers.nd rfl (Or.inl rfl) (pe_op op_fdiv (pv 2) pe_int))))
        (pss_cons (ps_set (i := 6) scLawNumbers.nd rfl (Or.inl rfl) (pe_op op_mod (pe_callTy (intQ K) (by rfl) T.m_int (by decide +kernel) (pa_cons (pe_op op_add (pe_op op_add (pe_op op_mul (pv 3) pe_int) (pe_op op_mul (pv 5) pe_int)) pe_int) pa_nil)) pe_int))
          (pss_cons (ps_set (i := 6) scLawNumbers.nd rfl (Or.inl rfl) (pe_op op_mod (pe_callTy (intQ K) (by rfl) T.m_int (by decide +kernel) (pa_cons (pe_op op_add (pe_op op_add (pe_op op_mul (pv 6) (pv 6)) (pe_op op_mul pe_int (pv 5))) pe_int) pa_nil)) pe_int))
          (pss_one (ps_expr (pe_bm PySem.F.plainAttrs_list PySem.F.slot_list_append PySem.F.type_list_append mt_append (pv 4) (pa_cons (pe_op op_mod (pe_callTy (intQ K) (by rfl) T.m_int (by decide +kernel) (pa_cons (pe_op op_fdiv (pv 6) pe_int) pa_nil)) pe_int) pa_nil)))))))))
      (pss_one (ps_ret (pv 4))))))), ?_⟩
    refine ⟨_, rfl, _, rfl, _, rfl, Nat.zero_le _, fun o no => ?_⟩
    refine ⟨_, rfl, _, rfl, by omega, by omega, for_range (lo := 0) (n := m) (fun i σ H' => ∃ (rest span : Int) (x5 x6 : Option V) (ns : List Int), σ = [some (.int c), some (.int (m : Int)), some (.int rest), some (.int span), some (.ref o), x5, x6] ∧ Same H H' ∧ H' o = some (.lst (ns.map V.int)) ∧ ns.length = i ∧ ∀ n ∈ ns, 0 ≤ n ∧ n < 1000)
      ⟨_, _, _, _, [], rfl, same_upd no, upd_same, rfl, fun n h => nomatch h⟩ (fun i σ H' hi ⟨rest, span, x5, x6, ns, hσ, hs, ho, hl, hb⟩ => ?_) (fun σ H' ⟨rest, span, x5, x6, ns, hσ, hs, ho, hl, hb⟩ => ?_)⟩
    · subst hσ
      have sz : (ns.map V.int).length < sizeLine := by
        rw [List.length_map]
        exact small1000 (by omega)
      have app : ∀ r : Int, 0 ≤ r → r < 1000 → (upd H' o (.lst (ns.map V.int ++ [V.int r]))) o = some (.lst ((ns ++ [r]).map V.int)) ∧ (ns ++ [r]).length = i + 1 ∧ ∀ n ∈ ns ++ [r], 0 ≤ n ∧ n < 1000 := fun r h0 h1 => by
        refine ⟨by rw [upd_same, List.map_append]; rfl, by rw [List.length_append, hl]; rfl, fun n hn => ?_⟩
        rcases List.mem_append.mp hn with hn | hn
        · exact hb n hn
        · rw [List.mem_singleton.mp hn]
          exact ⟨h0, h1⟩
      refine ⟨_, rfl, _, _, rfl, rfl, ⟨by decide, by decide, by decide⟩, _, _, rfl, rfl, _, rfl, ?_⟩
      have tl : ∀ (D : Ends) (rest' : Int) (x5' x6' : Option V) (r : Int), 0 ≤ r → r < 1000 → (∀ σ' H2, (∃ (rest span : Int) (x5 x6 : Option V) (ns : List Int), σ' = [some (.int c), some (.int (m : Int)), some (.int rest), some (.int span), some (.ref o), x5, x6] ∧ Same H H2 ∧ H2 o = some (.lst (ns.map V.int)) ∧ ns.length = i + 1 ∧ ∀ n ∈ ns, 0 ≤ n ∧ n < 1000) → D.nx σ' H2) → D.nx [some (.int c), some (.int (m : Int)), some (.int rest'), some (.int span), some (.ref o), x5', x6'] (upd H' o (.lst (ns.map V.int ++ [V.int r]))) := fun D rest' x5' x6' r h0 h1 k => by
        obtain ⟨a1, a2, a3⟩ := app r h0 h1
        exact k _ _ ⟨rest', span, x5', x6', _, rfl, same_mut hs no, a1, a2, a3⟩
      have m1 : ∀ z : Int, 0 ≤ z % 1000 ∧ z % 1000 < 1000 := fun z => by omega
      have m2 : ∀ z : Int, 0 ≤ z % 2147483647 ∧ z % 2147483647 < 2147483647 := fun z => by omega
      refine ite2 (fun e => ?_) (fun e => ?_)
      · refine ⟨_, rfl, _, _, rfl, rfl, _, rfl, ite2 (fun e => ?_) (fun e => ?_)⟩
        · refine ⟨_, rfl, .inl ⟨rfl, _, SqL.of ho⟩, _, rfl, .inl ⟨_, rfl, _, _, rfl, rfl, by show (0 : Int) < 1000; decide, _, _, _, rfl, rfl, ho, sz, ?_⟩⟩
          refine ⟨_, rfl, _, _, rfl, rfl, ⟨by decide, by decide⟩, ?_⟩
          obtain ⟨a1, a2, a3⟩ := app (rest % 1000) (m1 _).1 (m1 _).2
          exact ⟨_, _, _, _, _, rfl, same_mut hs no, a1, a2, a3⟩
        · refine ⟨_, rfl, _, _, rfl, rfl, .inr ⟨by decide, by decide⟩, _, rfl, _, _, rfl, rfl, .inr ⟨by decide, by decide⟩, _, _, rfl, rfl, _, _, rfl, rfl, .inl ⟨_, rfl, _, _, rfl, rfl, by show (0 : Int) < 2147483647; decide, ?_⟩⟩
          refine ⟨_, rfl, _, rfl, _, _, rfl, rfl, .inl ?_, _, rfl, _, _, rfl, rfl, .inl ⟨by decide, by decide⟩, _, _, rfl, rfl, _, _, rfl, rfl, .inl ⟨_, rfl, _, _, rfl, rfl, by show (0 : Int) < 2147483629; decide, ?_⟩⟩
          · have h := m2 (span * 48271 + (0 + (i : Int)) * 69621 + 11)
            omega
          refine ⟨_, rfl, .inl ⟨rfl, _, SqL.of ho⟩, _, rfl, _, _, rfl, rfl, ⟨by decide, by decide⟩, .inl ⟨_, rfl, _, _, rfl, rfl, by show (0 : Int) < 1000; decide, _, _, _, rfl, rfl, ho, sz, ?_⟩⟩
          obtain ⟨a1, a2, a3⟩ := app _ (m1 _).1 (m1 _).2
          exact ⟨_, _, _, _, _, rfl, same_mut hs no, a1, a2, a3⟩
      · refine iteF ?_
        refine ⟨_, rfl, _, _, rfl, rfl, .inr ⟨by decide, by decide⟩, _, rfl, _, _, rfl, rfl, .inr ⟨by decide, by decide⟩, _, _, rfl, rfl, _, _, rfl, rfl, .inl ⟨_, rfl, _, _, rfl, rfl, by show (0 : Int) < 2147483647; decide, ?_⟩⟩
        refine ⟨_, rfl, _, rfl, _, _, rfl, rfl, .inl ?_, _, rfl, _, _, rfl, rfl, .inl ⟨by decide, by decide⟩, _, _, rfl, rfl, _, _, rfl, rfl, .inl ⟨_, rfl, _, _, rfl, rfl, by show (0 : Int) < 2147483629; decide, ?_⟩⟩
        · have h := m2 (span * 48271 + (0 + (i : Int)) * 69621 + 11)
          omega
        refine ⟨_, rfl, .inl ⟨rfl, _, SqL.of ho⟩, _, rfl, _, _, rfl, rfl, ⟨by decide, by decide⟩, .inl ⟨_, rfl, _, _, rfl, rfl, by show (0 : Int) < 1000; decide, _, _, _, rfl, rfl, ho, sz, ?_⟩⟩
        obtain ⟨a1, a2, a3⟩ := app _ (m1 _).1 (m1 _).2
        exact ⟨_, _, _, _, _, rfl, same_mut hs no, a1, a2, a3⟩
    · subst hσ
      exact ⟨_, rfl, q _ _ ns hs no ho hl hb⟩
def spLawState (K : PySem.W.Frag) : Sp := fun vs H Q _ => ∃ (l : Addr) (ns : List Int), vs = [.ref l] ∧ SqL K H l (ns.map V.int) ∧ ∀ H' p a, Same H H' → Dw H' p a 0 → Q (.ref p) H'
theorem okLawState (T : Txt K mg fa fd) : FnOk P w K mg base CX0 2 (fa 14) (fd 14) ["script"] (spLawState K) := by
  refine T.F__law_state.ok scLawState (fun vs H Q E h => ?_) (fun cdv A outer s H vs Q E hr h => ?_)
  · obtain ⟨l, ns, rfl, hS, q⟩ := h
    rfl
  · obtain ⟨l, ns, rfl, hS, q⟩ := h
    refine ⟨_, (pss_cons (ps_set (i := 1) scLawState.nd rfl (Or.inl rfl) (pe_lst pa_nil))
      (pss_cons (ps_for PassesOwn.never rfl (pi_range1 (by rfl) T.m_range (pa_cons pe_int pa_nil)) (pg_name (i := 2) scLawState.nd rfl (Or.inl rfl))
      (pss_one (ps_set (i := 1) scLawState.nd rfl (Or.inl rfl) (pe_op op_cat (pv 1) (pe_call (sp := spLawNumbers K) (okLawNumbers T) hr (by rfl) T.G__law_numbers T.F__law_numbers.kp T.B__law_numbers .nil pass0 (pa_cons (pe_op op_add (pe_callB (absQ K) (by rfl) T.m_abs (by decide +kernel) (pa_cons (pe_call (sp := spLawCell K) (okLawCell T) hr (by rfl) T.G__law_cell T.F__law_cell.kp T.B__law_cell .nil pass0 (pa_cons (pv 0) (pa_cons (pv 2) pa_nil))) pa_nil)) (pe_op op_mul pe_int (pv 2))) (pa_cons pe_int pa_nil)))))))
      (pss_one (ps_ret (pe_lst (pa_cons (pv 1) (pa_cons pe_int pa_nil))))))), ?_⟩
    refine ⟨Nat.zero_le _, fun o no => ?_⟩
    refine ⟨3, rfl, by decide, by decide, for_range (lo := 0) (n := 3) (fun i σ H' => ∃ (o : Addr) (x2 : Option V) (ms : List Int), σ = [some (.ref l), some (.ref o), x2] ∧ Same H H' ∧ H' o = some (.lst (ms.map V.int)) ∧ ms.length = 40 * i ∧ ∀ n ∈ ms, 0 ≤ n ∧ n < 1000)
      ⟨o, none, [], rfl, same_upd no, upd_same, rfl, fun n h => nomatch h⟩ (fun i σ H' hi ⟨o, x2, ms, hσ, hs, ho, hl, hb⟩ => ?_) (fun σ H' ⟨o, x2, ms, hσ, hs, ho, hl, hb⟩ => ?_)⟩
    · subst hσ
      refine ⟨_, rfl, _, rfl, _, rfl, l, ns, i, ?_, hs.seq hS, fun v => ⟨_, rfl, _, rfl, _, _, rfl, rfl, .inl ⟨by decide, by decide⟩, _, _, rfl, rfl, _, 40, rfl, by decide, fun H2 u ks s2 nu hu kl kb => ?_⟩⟩
      · exact congrArg (fun t : Int => [V.ref l, V.int t]) (Int.zero_add _)
      refine ⟨_, _, _, _, rfl, rfl, s2 _ _ ho, hu, ?_, fun w nw => ?_⟩
      · rw [List.length_map, List.length_map]
        exact small200 (by omega)
      refine ⟨w, _, ms ++ ks, rfl, (hs.trans s2).trans (same_upd nw), ?_, ?_, fun n hn => ?_⟩
      · rw [upd_same, List.map_append]
      · rw [List.length_append]
        omega
      · rcases List.mem_append.mp hn with hn | hn
        · exact hb n hn
        · exact kb n hn
    · subst hσ
      refine ⟨_, rfl, by show 2 ≤ sizeLine; decide, fun p np => ?_⟩
      refine q _ p o (hs.trans (same_upd np)) ⟨0, ms, Nat.le_refl 0, ne_of_none ho np, upd_same, ?_, hl, hb⟩
      rw [upd_ne (ne_of_none ho np)]
      exact ho
def spLawNext (_ : PySem.W.Frag) : Sp := fun vs H Q _ => ∃ (p a : Addr) (many : Int) (N : Nat), vs = [.ref p, .int many] ∧ Dw H p a N ∧ N < 1000000000 ∧ 0 < many ∧
  ∀ r H', 0 ≤ r → r < many → Dw H' p a (N + 1) → (∀ b, b ≠ p → H' b = H b) → Q (.int r) H'
theorem uLawNext {K : PySem.W.Frag} {H : Hp} {Q : VK} {E : XK} {vs : List V} {p a : Addr} {N : Nat} {many : Int} (e : vs = [.ref p, .int many]) (d : Dw H p a N) (hN : N < 1000000000) (hm : 0 < many) (q : ∀ r H', 0 ≤ r → r < many → Dw H' p a (N + 1) → Kp p H H' → Q (.int r) H') : spLawNext K vs H Q E :=
  ⟨p, a, many, N, e, d, hN, hm, fun r H' h0 h1 d' f => q r H' h0 h1 d' (frm_kp f)⟩
theorem okLawNext (T : Txt K mg fa fd) : FnOk P w K mg base CX0 1 (fa 15) (fd 15) ["state", "many"] (spLawNext K) := by
  refine T.F__law_next.ok scLawNext (fun vs H Q E h => ?_) (fun cdv A outer s H vs Q E hr h => ?_)
  · obtain ⟨p, a, many, N, rfl, ⟨m, ns, hm, hap, hp, ha, hl, hb⟩, hN, hmany, q⟩ := h
    rfl
  · obtain ⟨p, a, many, N, rfl, ⟨m, ns, hm, hap, hp, ha, hl, hb⟩, hN, hmany, q⟩ := h
    refine ⟨_, (pss_cons (ps_asg (pe_op op_add (pe_ix (ixL K) (pv 0) pe_int (fun _ _ => rfl)) pe_int) (pg_sub (pv 0) pe_int set_list))
      (pss_cons (ps_set (i := 2) scLawNext.nd rfl (Or.inl rfl) (pe_op op_add (pe_ix (ixL K) (pe_ix (ixL K) (pv 0) pe_int (fun _ _ => rfl)) (pe_op op_mod (pe_callTy (intQ K) (by rfl) T.m_int (by decide +kernel) (pa_cons (pe_op op_mul (pe_ix (ixL K) (pv 0) pe_int (fun _ _ => rfl)) pe_int) pa_nil)) (pe_callB (lenQ K) (by rfl) T.m_len (by decide +kernel) (pa_cons (pe_ix (ixL K) (pv 0) pe_int (fun _ _ => rfl)) pa_nil))) (fun _ _ => rfl)) (pe_op op_mul (pe_op op_mul pe_int (pe_ix (ixL K) (pv 0) pe_int (fun _ _ => rfl))) (pe_op op_add pe_int (pe_op op_fdiv (pe_ix (ixL K) (pv 0) pe_int (fun _ _ => rfl)) (pe_callB (lenQ K) (by rfl) T.m_len (by decide +kernel) (pa_cons (pe_ix (ixL K) (pv 0) pe_int (fun _ _ => rfl)) pa_nil)))))))
      (pss_one (ps_ret (pe_op op_mod (pe_callTy (intQ K) (by rfl) T.m_int (by decide +kernel) (pa_cons (pv 2) pa_nil)) (pv 1)))))), ?_⟩
    have eS : SqL K H p [.ref a, .int (m : Int)] := SqL.of hp
    refine ⟨_, rfl, _, _, _, _, rfl, rfl, eS, atI_nat (j := 1) rfl, _, _, rfl, rfl, _, rfl, _, _, _, 1, rfl, rfl, hp, rfl, ?_⟩
    have h1p : (upd H p (.lst [.ref a, .int ((m : Int) + 1)])) p = some (.lst [.ref a, .int ((m : Int) + 1)]) := upd_same
    have h1a : (upd H p (.lst [.ref a, .int ((m : Int) + 1)])) a = some (.lst (ns.map V.int)) := by
      rw [upd_ne hap]
      exact ha
    have fr : ∀ b, b ≠ p → (upd H p (.lst [.ref a, .int ((m : Int) + 1)])) b = H b := fun b hb => upd_ne hb
    show tSeq _ _ _ _ (upd H p (.lst [.ref a, .int ((m : Int) + 1)]))
    generalize upd H p (.lst [.ref a, .int ((m : Int) + 1)]) = H1 at h1p h1a fr
    have S1 : SqL K H1 p [.ref a, .int ((m : Int) + 1)] := SqL.of h1p
    have A1 : SqL K H1 a (ns.map V.int) := SqL.of h1a
    have hl2 : ((ns.map V.int).length : Int) = 120 := by
      rw [List.length_map, hl]
      rfl
    obtain ⟨x, hx, ex⟩ := at_int (ns := ns) (r := ((m : Int) + 1) * 7 % 120) (by omega) (by omega)
    refine ⟨_, rfl, _, _, _, _, rfl, rfl, S1, atI_nat (j := 0) rfl, _, rfl, _, _, _, _, rfl, rfl, S1, atI_nat (j := 1) rfl, _, _, rfl, rfl, .inr ⟨by decide, by decide⟩, .inl ⟨_, rfl, _, rfl, _, _, _, _, rfl, rfl, S1, atI_nat (j := 0) rfl, _, _, rfl, .inl A1, ?_⟩⟩
    rw [hl2]
    refine ⟨_, _, rfl, rfl, by show (0 : Int) < 120; decide, _, _, _, _, rfl, rfl, A1, ex, ?_⟩
    refine ⟨_, rfl, _, _, _, _, rfl, rfl, S1, atI_nat (j := 1) rfl, _, _, rfl, rfl, .inl ⟨by decide, by decide⟩, _, rfl, _, _, _, _, rfl, rfl, S1, atI_nat (j := 1) rfl, _, rfl, _, _, _, _, rfl, rfl, S1, atI_nat (j := 0) rfl, _, _, rfl, .inl A1, ?_⟩
    rw [hl2]
    refine ⟨_, _, rfl, rfl, ⟨by decide, by decide⟩, _, _, rfl, rfl, _, _, rfl, rfl, .inl ⟨by omega, by omega⟩, _, _, rfl, rfl, ?_⟩
    refine ⟨_, rfl, .inl ⟨_, rfl, _, rfl, _, _, rfl, rfl, hmany, ?_⟩⟩
    exact q _ _ (Int.emod_nonneg _ (by omega)) (Int.emod_lt_of_pos _ hmany) ⟨m + 1, ns, by omega, hap, h1p, h1a, hl, hb⟩ fr
def spLawRoot (_ : PySem.W.Frag) : Sp := fun vs H Q _ => ∃ n : Int, vs = [.int n] ∧ 0 ≤ n ∧ n < 2 ^ 60 ∧ Q (.int (rootI n)) H
theorem okLawRoot (T : Txt K mg fa fd) : FnOk P w K mg base CX0 1 (fa 16) (fd 16) ["n"] (spLawRoot K) := by
  refine T.F__law_root.ok scLawRoot (fun vs H Q E h => ?_) (fun cdv A outer s H vs Q E hr h => ?_)
  · obtain ⟨n, rfl, h0, h1, q⟩ := h
    rfl
  · obtain ⟨n, rfl, h0, h1, q⟩ := h
    refine ⟨_, (pss_cons (ps_set (i := 1) scLawRoot.nd rfl (Or.inl rfl) pe_int)
      (pss_cons (ps_set (i := 2) scLawRoot.nd rfl (Or.inl rfl) (pe_op op_add (pv 0) pe_int))
      (pss_cons (ps_for PassesOwn.never rfl (pi_range1 (by rfl) T.m_range (pa_cons pe_int pa_nil)) (pg_name (i := 3) scLawRoot.nd rfl (Or.inl rfl))
      (pss_cons (ps_if (pt_cmp (pc_le (pe_op op_sub (pv 2) (pv 1)) pe_int))
        (pss_one (ps_ret (pv 1)))
        pss_nil)
        (pss_cons (ps_set (i := 4) scLawRoot.nd rfl (Or.inl rfl) (pe_op op_fdiv (pe_op op_add (pv 1) (pv 2)) pe_int))
        (pss_one (ps_if (pt_cmp (pc_le (pe_op op_mul (pv 4) (pv 4)) (pv 0)))
        (pss_one (ps_set (i := 1) scLawRoot.nd rfl (Or.inl rfl) (pv 4)))
        (pss_one (ps_set (i := 2) scLawRoot.nd rfl (Or.inl rfl) (pv 4))))))))
      (pss_one (ps_ret (pv 1)))))), ?_⟩
    have h1' : n < 1152921504606846976 := h1
    refine ⟨_, rfl, _, _, rfl, rfl, 2000, rfl, by decide, by decide, ?_⟩
    refine for_range (lo := 0) (n := 2000) (fun i σ H' => ∃ (low high : Int) (x3 x4 : Option V), σ = [some (.int n), some (.int low), some (.int high), x3, x4] ∧ H' = H ∧ 0 ≤ low ∧ low < high ∧ high ≤ n + 1 ∧ low * low ≤ n ∧ n < high * high ∧ (high - low - 1) * 2 ^ i ≤ n)
      ⟨0, n + 1, none, none, rfl, rfl, by omega, by omega, by omega, by omega, ?_, by simp⟩ (fun i σ H' hi ⟨low, high, x3, x4, hσ, e, z0, z1, z2, z3, z4, z5⟩ => ?_) (fun σ H' ⟨low, high, x3, x4, hσ, e, z0, z1, z2, z3, z4, z5⟩ => ?_)
    · have a : (n + 1) * 1 ≤ (n + 1) * (n + 1) := Int.mul_le_mul_of_nonneg_left (by omega) (by omega)
      omega
    · subst hσ e
      refine ⟨_, rfl, _, rfl, _, _, rfl, rfl, _, _, rfl, rfl, _, rfl, way2 (fun h => ?_) (fun h => ?_)⟩
      · have eh : high = low + 1 := by omega
        subst eh
        refine ⟨_, rfl, ?_⟩
        rw [← rootI_uniq h0 z0 z3 z4] at q
        exact q
      · obtain ⟨k1, k2, k3, k4⟩ := half_step (by omega) z5
        refine ⟨_, rfl, _, rfl, _, _, rfl, rfl, _, _, rfl, rfl, ⟨by decide, by decide⟩, ?_⟩
        refine ⟨_, rfl, _, rfl, _, _, rfl, rfl, .inl ⟨by omega, by omega⟩, _, rfl, _, _, rfl, rfl, _, rfl, way2 (fun h => ?_) (fun h => ?_)⟩
        · exact ⟨_, rfl, (low + high) / 2, high, _, _, rfl, rfl, by omega, k4, z2, h, z4, k2⟩
        · exact ⟨_, rfl, low, (low + high) / 2, _, _, rfl, rfl, z0, k3, by omega, z3, by omega, k1⟩
    · subst hσ e
      have eh : high = low + 1 := by
        by_cases z : high - low - 1 ≤ 0
        · omega
        · have p0 : (2 : Int) ^ 60 ≤ 2 ^ 2000 := by
            have e1 : ((2 ^ 60 : Nat) : Int) = 2 ^ 60 := Int.natCast_pow 2 60
            have e2 : ((2 ^ 2000 : Nat) : Int) = 2 ^ 2000 := Int.natCast_pow 2 2000
            have e3 := Nat.pow_le_pow_right (n := 2) (by decide) (show 60 ≤ 2000 by decide)
            omega
          have a : 1 * 2 ^ 2000 ≤ (high - low - 1) * 2 ^ 2000 := Int.mul_le_mul_of_nonneg_right (by omega) (Int.le_trans (by decide) p0)
          omega
      subst eh
      refine ⟨_, rfl, ?_⟩
      rw [← rootI_uniq h0 z0 z3 z4] at q
      exact q
def spLawMeasure (_ : PySem.W.Frag) : Sp := fun vs H Q _ => ∃ a b : Int, vs = [.int a, .int b] ∧ Bd 2000 a ∧ Bd 2000 b ∧ Q (.int (gI a b)) H
theorem uLawMeasure {K : PySem.W.Frag} {H : Hp} {Q : VK} {E : XK} {vs : List V} {a b : Int} {n m : Nat} (e : vs = [.int a, .int b]) (h1 : Bd n a) (h2 : Bd m b) (l1 : Nat.ble n 2000 = true) (l2 : Nat.ble m 2000 = true) (kk : Q (.int (gI a b)) H) : spLawMeasure K vs H Q E := ⟨a, b, e, bdm h1 l1, bdm h2 l2, kk⟩
theorem okLawMeasure (T : Txt K mg fa fd) : FnOk P w K mg base CX0 1 (fa 17) (fd 17) ["a", "b"] (spLawMeasure K) := by
  refine T.F__law_measure.ok scLawMeasure (fun vs H Q E h => ?_) (fun cdv A outer s H vs Q E hr h => ?_)
  · obtain ⟨a, b, rfl, ha, hb, q⟩ := h
    rfl
  · obtain ⟨a, b, rfl, ha, hb, q⟩ := h
    refine ⟨_, (pss_cons (ps_set (i := 0) scLawMeasure.nd rfl (Or.inl rfl) (pe_callB (absQ K) (by rfl) T.m_abs (by decide +kernel) (pa_cons (pv 0) pa_nil)))
      (pss_cons (ps_set (i := 1) scLawMeasure.nd rfl (Or.inl rfl) (pe_callB (absQ K) (by rfl) T.m_abs (by decide +kernel) (pa_cons (pv 1) pa_nil)))
      (pss_cons (ps_for PassesOwn.never rfl (pi_range1 (by rfl) T.m_range (pa_cons pe_int pa_nil)) (pg_name (i := 2) scLawMeasure.nd rfl (Or.inl rfl))
      (pss_cons (ps_if (pt_cmp (pc_eqI (pv 1) pe_int))
        (pss_one (ps_ret (pv 0)))
        pss_nil)
        (pss_one (ps_par (i := 0) (j := 1) (by rfl) scLawMeasure.nd rfl rfl (by decide) rfl rfl (pa_cons (pv 1) (pa_cons (pe_op op_mod (pv 0) (pv 1)) pa_nil)) (by rfl)))))
      (pss_one (ps_ret (pv 0)))))), ?_⟩
    have hP : a.natAbs * b.natAbs * 2 < 2 ^ 4900 := by
      have h : a.natAbs * b.natAbs < 2 ^ (2000 + 2000) := by
        rw [Nat.pow_add]
        exact Nat.mul_lt_mul'' ha hb
      have e : (2 : Nat) ^ 4900 = 2 ^ (2000 + 2000) * 2 ^ 900 := Nat.pow_add 2 (2000 + 2000) 900
      rw [e]
      exact Nat.mul_lt_mul'' h (by decide)
    clean_wf
    refine R.forN (lo := 0) (n := Int.toNat 5000) (fun i σ H' => ∃ (x y : Nat) (x2 : Option V), σ = [some (.int (x : Int)), some (.int (y : Int)), x2] ∧ H' = H ∧ ((Nat.gcd x y : Nat) : Int) = gI a b ∧ ((i = 0 ∧ x * y * 2 < 2 ^ 4900) ∨ (y ≤ x ∧ x * y * 2 ^ i < 2 ^ 4900)))
      ⟨a.natAbs, b.natAbs, _, rfl, rfl, rfl, .inl ⟨rfl, hP⟩⟩ (fun i σ H' hi ⟨x, y, x2, e1, e2, hg, hz⟩ => ?_) (fun σ H' ⟨x, y, x2, e1, e2, hg, hz⟩ => ?_)
    · subst e1 e2
      clean_wf
      refine way2 (fun h => ?_) (fun h => ?_)
      · have hy : y = 0 := by omega
        rw [hy, Nat.gcd_zero_right] at hg
        rw [← hg] at q
        clean_wf
      · have hy : y ≠ 0 := by omega
        obtain ⟨s1, s2⟩ := em_step hy hz
        clean_wf
        refine ⟨y, x % y, _, rfl, rfl, ?_, .inr ⟨s1, s2⟩⟩
        rw [← hg, Nat.gcd_comm y, ← Nat.gcd_rec, Nat.gcd_comm]
    · subst e1 e2
      have e : ((x : Nat) : Int) = gI a b := by
        have h := em_end5 (G := Nat.gcd x y) rfl hz (Nat.pow_le_pow_right (by decide) (by decide))
        rw [← hg, ← h]
      rw [← e] at q
      clean_wf
def spLawMul (K : PySem.W.Frag) : Sp := fun vs H Q _ => ∃ (am an : Addr) (p q r s p2 q2 r2 s2 : Int) (N : Nat), vs = [.ref am, .ref an] ∧ SqT K H am [.int p, .int q, .int r, .int s] ∧ SqT K H an [.int p2, .int q2, .int r2, .int s2] ∧ Bd N p ∧ Bd N q ∧ Bd N r ∧ Bd N s ∧ Bd N p2 ∧ Bd N q2 ∧ Bd N r2 ∧ Bd N s2 ∧ N ≤ 400000 ∧ (R.Nw H [.int (p * p2 + q * r2), .int (p * q2 + q * s2), .int (r * p2 + s * r2), .int (r * q2 + s * s2)] Q)
theorem uLawMul {K : PySem.W.Frag} {H : Hp} {Q : VK} {E : XK} {vs : List V} {am an : Addr} {p q r s p2 q2 r2 s2 : Int} {n0 n1 n2 n3 n4 n5 n6 n7 : Nat} (hev : vs = [.ref am, .ref an]) (s0 : SqT K H am [.int p, .int q, .int r, .int s]) (s1 : SqT K H an [.int p2, .int q2, .int r2, .int s2]) (b0 : Bd n0 p) (b1 : Bd n1 q) (b2 : Bd n2 r) (b3 : Bd n3 s) (b4 : Bd n4 p2) (b5 : Bd n5 q2) (b6 : Bd n6 r2) (b7 : Bd n7 s2) (hll : (n0 + n1 + n2 + n3 + n4 + n5 + n6 + n7 ≤ 400000) = True) (kk : R.Nw H [.int (p * p2 + q * r2), .int (p * q2 + q * s2), .int (r * p2 + s * r2), .int (r * q2 + s * s2)] Q) : spLawMul K vs H Q E :=
  have hll := of_eq_true hll
  ⟨am, an, p, q, r, s, p2, q2, r2, s2, n0 + n1 + n2 + n3 + n4 + n5 + n6 + n7, hev, s0, s1, b0.mono (by omega), b1.mono (by omega), b2.mono (by omega), b3.mono (by omega), b4.mono (by omega), b5.mono (by omega), b6.mono (by omega), b7.mono (by omega), hll, kk⟩
theorem okLawMul (T : Txt K mg fa fd) : FnOk P w K mg base CX0 1 (fa 18) (fd 18) ["m", "n"] (spLawMul K) := by
  refine T.F__law_mul.ok scLawMul (fun vs H Q E h => ?_) (fun cdv A outer s H vs Q E hr h => ?_)
  · obtain ⟨am, an, p, q, r, s, p2, q2, r2, s2, N, rfl, h_am, h_an, b_p, b_q, b_r, b_s, b_p2, b_q2, b_r2, b_s2, hN, kk⟩ := h
    rfl
  · obtain ⟨am, an, p, q, r, s, p2, q2, r2, s2, N, rfl, h_am, h_an, b_p, b_q, b_r, b_s, b_p2, b_q2, b_r2, b_s2, hN, kk⟩ := h
    refine ⟨_, (pss_cons (ps_set (i := 2) scLawMul.nd rfl (Or.inl rfl) (pe_lst (pa_cons (pe_op op_add (pe_op op_mulW (pe_ix (ixT K) (pv 0) pe_int (fun _ _ => rfl)) (pe_ix (ixT K) (pv 1) pe_int (fun _ _ => rfl))) (pe_op op_mulW (pe_ix (ixT K) (pv 0) pe_int (fun _ _ => rfl)) (pe_ix (ixT K) (pv 1) pe_int (fun _ _ => rfl)))) (pa_cons (pe_op op_add (pe_op op_mulW (pe_ix (ixT K) (pv 0) pe_int (fun _ _ => rfl)) (pe_ix (ixT K) (pv 1) pe_int (fun _ _ => rfl))) (pe_op op_mulW (pe_ix (ixT K) (pv 0) pe_int (fun _ _ => rfl)) (pe_ix (ixT K) (pv 1) pe_int (fun _ _ => rfl)))) pa_nil))))
      (pss_one (ps_ret (pe_callTy (tupQ K) (by rfl) T.m_tuple (by decide +kernel) (pa_cons (pe_op op_cat (pv 2) (pe_lst (pa_cons (pe_op op_add (pe_op op_mulW (pe_ix (ixT K) (pv 0) pe_int (fun _ _ => rfl)) (pe_ix (ixT K) (pv 1) pe_int (fun _ _ => rfl))) (pe_op op_mulW (pe_ix (ixT K) (pv 0) pe_int (fun _ _ => rfl)) (pe_ix (ixT K) (pv 1) pe_int (fun _ _ => rfl)))) (pa_cons (pe_op op_add (pe_op op_mulW (pe_ix (ixT K) (pv 0) pe_int (fun _ _ => rfl)) (pe_ix (ixT K) (pv 1) pe_int (fun _ _ => rfl))) (pe_op op_mulW (pe_ix (ixT K) (pv 0) pe_int (fun _ _ => rfl)) (pe_ix (ixT K) (pv 1) pe_int (fun _ _ => rfl)))) pa_nil)))) pa_nil))))), ?_⟩
    clean_wf
    all_goals first | omega | exact kk | (refine kk _ _ ?_ (by assumption); (repeat' (first | with_reducible exact Same.refl _ | with_reducible assumption | ((with_reducible apply sameB); with_reducible assumption))))
def spLawWorth (K : PySem.W.Frag) : Sp := fun vs H Q _ => ∃ (aform : Addr) (a b c x y : Int) (N : Nat), vs = [.ref aform, .int x, .int y] ∧ SqT K H aform [.int a, .int b, .int c] ∧ Bd N a ∧ Bd N b ∧ Bd N c ∧ Bd N x ∧ Bd N y ∧ N ≤ 300000 ∧ (Q (.int (a * x * x + b * x * y + c * y * y)) H)
theorem uLawWorth {K : PySem.W.Frag} {H : Hp} {Q : VK} {E : XK} {vs : List V} {aform : Addr} {a b c x y : Int} {n0 n1 n2 n3 n4 : Nat} (hev : vs = [.ref aform, .int x, .int y]) (s0 : SqT K H aform [.int a, .int b, .int c]) (b0 : Bd n0 a) (b1 : Bd n1 b) (b2 : Bd n2 c) (b3 : Bd n3 x) (b4 : Bd n4 y) (hll : (n0 + n1 + n2 + n3 + n4 ≤ 300000) = True) (kk : Q (.int (a * x * x + b * x * y + c * y * y)) H) : spLawWorth K vs H Q E :=
  have hll := of_eq_true hll
  ⟨aform, a, b, c, x, y, n0 + n1 + n2 + n3 + n4, hev, s0, b0.mono (by omega), b1.mono (by omega), b2.mono (by omega), b3.mono (by omega), b4.mono (by omega), hll, kk⟩
theorem okLawWorth (T : Txt K mg fa fd) : FnOk P w K mg base CX0 1 (fa 19) (fd 19) ["form", "x", "y"] (spLawWorth K) := by
  refine T.F__law_worth.ok scLawWorth (fun vs H Q E h => ?_) (fun cdv A outer s H vs Q E hr h => ?_)
  · obtain ⟨aform, a, b, c, x, y, N, rfl, h_aform, b_a, b_b, b_c, b_x, b_y, hN, kk⟩ := h
    rfl
  · obtain ⟨aform, a, b, c, x, y, N, rfl, h_aform, b_a, b_b, b_c, b_x, b_y, hN, kk⟩ := h
    refine ⟨_, (pss_one (ps_ret (pe_op op_add (pe_op op_add (pe_op op_mulW (pe_op op_mulW (pe_ix (ixT K) (pv 0) pe_int (fun _ _ => rfl)) (pv 1)) (pv 1)) (pe_op op_mulW (pe_op op_mulW (pe_ix (ixT K) (pv 0) pe_int (fun _ _ => rfl)) (pv 1)) (pv 2))) (pe_op op_mulW (pe_op op_mulW (pe_ix (ixT K) (pv 0) pe_int (fun _ _ => rfl)) (pv 2)) (pv 2))))), ?_⟩
    clean_wf
    all_goals first | omega | exact kk | (refine kk _ _ ?_ (by assumption); (repeat' (first | with_reducible exact Same.refl _ | with_reducible assumption | ((with_reducible apply sameB); with_reducible assumption))))
def spLawAct (K : PySem.W.Frag) : Sp := fun vs H Q _ => ∃ (aform am : Addr) (a b c p q r s : Int) (N : Nat), vs = [.ref aform, .ref am] ∧ SqT K H aform [.int a, .int b, .int c] ∧ SqT K H am [.int p, .int q, .int r, .int s] ∧ Bd N a ∧ Bd N b ∧ Bd N c ∧ Bd N p ∧ Bd N q ∧ Bd N r ∧ Bd N s ∧ N ≤ 59000 ∧ (R.Nw H [.int (a * p * p + b * p * r + c * r * r), .int (2 * a * p * q + b * (p * s + q * r) + 2 * c * r * s), .int (a * q * q + b * q * s + c * s * s)] Q)
theorem uLawAct {K : PySem.W.Frag} {H : Hp} {Q : VK} {E : XK} {vs : List V} {aform am : Addr} {a b c p q r s : Int} {n0 n1 n2 n3 n4 n5 n6 : Nat} (hev : vs = [.ref aform, .ref am]) (s0 : SqT K H aform [.int a, .int b, .int c]) (s1 : SqT K H am [.int p, .int q, .int r, .int s]) (b0 : Bd n0 a) (b1 : Bd n1 b) (b2 : Bd n2 c) (b3 : Bd n3 p) (b4 : Bd n4 q) (b5 : Bd n5 r) (b6 : Bd n6 s) (hll : (n0 + n1 + n2 + n3 + n4 + n5 + n6 ≤ 59000) = True) (kk : R.Nw H [.int (a * p * p + b * p * r + c * r * r), .int (2 * a * p * q + b * (p * s + q * r) + 2 * c * r * s), .int (a * q * q + b * q * s + c * s * s)] Q) : spLawAct K vs H Q E :=
  have hll := of_eq_true hll
  ⟨aform, am, a, b, c, p, q, r, s, n0 + n1 + n2 + n3 + n4 + n5 + n6, hev, s0, s1, b0.mono (by omega), b1.mono (by omega), b2.mono (by omega), b3.mono (by omega), b4.mono (by omega), b5.mono (by omega), b6.mono (by omega), hll, kk⟩
theorem okLawAct (T : Txt K mg fa fd) : FnOk P w K mg base CX0 2 (fa 20) (fd 20) ["form", "m"] (spLawAct K) := by
  refine T.F__law_act.ok scLawAct (fun vs H Q E h => ?_) (fun cdv A outer s H vs Q E hr h => ?_)
  · obtain ⟨aform, am, a, b, c, p, q, r, s, N, rfl, h_aform, h_am, b_a, b_b, b_c, b_p, b_q, b_r, b_s, hN, kk⟩ := h
    rfl
  · obtain ⟨aform, am, a, b, c, p, q, r, s, N, rfl, h_aform, h_am, b_a, b_b, b_c, b_p, b_q, b_r, b_s, hN, kk⟩ := h
    refine ⟨_, (pss_cons (ps_set (i := 2) scLawAct.nd rfl (Or.inl rfl) (pe_call (sp := spLawWorth K) (okLawWorth T) hr (by rfl) T.G__law_worth T.F__law_worth.kp T.B__law_worth .nil pass0 (pa_cons (pv 0) (pa_cons (pe_ix (ixT K) (pv 1) pe_int (fun _ _ => rfl)) (pa_cons (pe_ix (ixT K) (pv 1) pe_int (fun _ _ => rfl)) pa_nil)))))
      (pss_cons (ps_set (i := 3) scLawAct.nd rfl (Or.inl rfl) (pe_call (sp := spLawWorth K) (okLawWorth T) hr (by rfl) T.G__law_worth T.F__law_worth.kp T.B__law_worth .nil pass0 (pa_cons (pv 0) (pa_cons (pe_ix (ixT K) (pv 1) pe_int (fun _ _ => rfl)) (pa_cons (pe_ix (ixT K) (pv 1) pe_int (fun _ _ => rfl)) pa_nil)))))
      (pss_one (ps_ret (pe_tup (pa_cons (pv 2) (pa_cons (pe_op op_sub (pe_op op_sub (pe_call (sp := spLawWorth K) (okLawWorth T) hr (by rfl) T.G__law_worth T.F__law_worth.kp T.B__law_worth .nil pass0 (pa_cons (pv 0) (pa_cons (pe_op op_add (pe_ix (ixT K) (pv 1) pe_int (fun _ _ => rfl)) (pe_ix (ixT K) (pv 1) pe_int (fun _ _ => rfl))) (pa_cons (pe_op op_add (pe_ix (ixT K) (pv 1) pe_int (fun _ _ => rfl)) (pe_ix (ixT K) (pv 1) pe_int (fun _ _ => rfl))) pa_nil)))) (pv 2)) (pv 3)) (pa_cons (pv 3) pa_nil)))))))), ?_⟩
    rw [← act_mid] at kk
    clean_wf
    all_goals first | omega | exact kk | (refine kk _ _ ?_ (by assumption); (repeat' (first | with_reducible exact Same.refl _ | with_reducible assumption | ((with_reducible apply sameB); with_reducible assumption))))
def Lc4 (i : Nat) (m1 m2 m3 m4 : Int) : Prop := m1 * m4 - m2 * m3 = 1 ∧ m1.natAbs ≤ 3 ^ i ∧ m2.natAbs ≤ 3 ^ i ∧ m3.natAbs ≤ 3 ^ i ∧ m4.natAbs ≤ 3 ^ i
def spLawChange (K : PySem.W.Frag) : Sp := fun vs H Q _ => ∃ (p a : Addr) (N : Nat) (many : Int), vs = [.ref p, .int many] ∧ Dw H p a N ∧ N < 100000 ∧ 0 ≤ many ∧ many ≤ 10 ∧
  ∀ H' t m1 m2 m3 m4, Dw H' p a (N + 31) → Kp p H H' → SqT K H' t [.int m1, .int m2, .int m3, .int m4] → Lc4 many.toNat m1 m2 m3 m4 → Q (.ref t) H'
theorem uLawChange {K : PySem.W.Frag} {H : Hp} {Q : VK} {E : XK} {vs : List V} {p a : Addr} {N : Nat} {many : Int} (e : vs = [.ref p, .int many]) (d : Dw H p a N) (hN : N < 100000) (h0 : 0 ≤ many) (h1 : many ≤ 10)
    (kk : ∀ H' t m1 m2 m3 m4, Dw H' p a (N + 31) → Kp p H H' → SqT K H' t [.int m1, .int m2, .int m3, .int m4] → Lc4 many.toNat m1 m2 m3 m4 → Q (.ref t) H') : spLawChange K vs H Q E := ⟨p, a, N, many, e, d, hN, h0, h1, kk⟩
theorem Lc4.mono {i j : Nat} {m1 m2 m3 m4 : Int} (h : Lc4 i m1 m2 m3 m4) (l : i ≤ j) : Lc4 j m1 m2 m3 m4 := by
  have e : 3 ^ i ≤ 3 ^ j := Nat.pow_le_pow_right (by decide) l
  obtain ⟨h1, h2, h3, h4, h5⟩ := h
  exact ⟨h1, Nat.le_trans h2 e, Nat.le_trans h3 e, Nat.le_trans h4 e, Nat.le_trans h5 e⟩
theorem Lc4.bd {i : Nat} {m1 m2 m3 m4 : Int} (h : Lc4 i m1 m2 m3 m4) (l : i ≤ 10) : Bd 16 m1 ∧ Bd 16 m2 ∧ Bd 16 m3 ∧ Bd 16 m4 := by
  obtain ⟨h1, h2, h3, h4, h5⟩ := h.mono l
  exact ⟨Bd.of h2 (by decide), Bd.of h3 (by decide), Bd.of h4 (by decide), Bd.of h5 (by decide)⟩
theorem two3 {i : Nat} {m x t : Int} (h1 : m.natAbs ≤ 3 ^ i) (h2 : x.natAbs ≤ 3 ^ i) (t1 : -2 ≤ t) (t2 : t ≤ 2) : (m * t + x).natAbs ≤ 3 ^ (i + 1) := by
  have e : (m * t).natAbs ≤ 3 ^ i * 2 := by
    rw [Int.natAbs_mul]
    exact Nat.mul_le_mul h1 (by omega)
  rw [Nat.pow_succ]
  omega
theorem Lc4.s1 {i : Nat} {m1 m2 m3 m4 t : Int} (h : Lc4 i m1 m2 m3 m4) (t1 : -2 ≤ t) (t2 : t ≤ 2) : Lc4 (i + 1) (m1 * 1 + m2 * 0) (m1 * t + m2 * 1) (m3 * 1 + m4 * 0) (m3 * t + m4 * 1) := by
  have k := h.mono (Nat.le_succ i)
  obtain ⟨h1, h2, h3, h4, h5⟩ := h
  obtain ⟨k1, k2, k3, k4, k5⟩ := k
  rw [Int.mul_one, Int.mul_one, Int.mul_one, Int.mul_one, Int.mul_zero, Int.mul_zero, Int.add_zero, Int.add_zero]
  refine ⟨?_, k2, two3 h2 h3 t1 t2, k4, two3 h4 h5 t1 t2⟩
  grind
theorem Lc4.s2 {i : Nat} {m1 m2 m3 m4 t : Int} (h : Lc4 i m1 m2 m3 m4) (t1 : -2 ≤ t) (t2 : t ≤ 2) : Lc4 (i + 1) (m1 * 1 + m2 * t) (m1 * 0 + m2 * 1) (m3 * 1 + m4 * t) (m3 * 0 + m4 * 1) := by
  have k := h.mono (Nat.le_succ i)
  obtain ⟨h1, h2, h3, h4, h5⟩ := h
  obtain ⟨k1, k2, k3, k4, k5⟩ := k
  rw [Int.mul_one, Int.mul_one, Int.mul_one, Int.mul_one, Int.mul_zero, Int.mul_zero, Int.zero_add, Int.zero_add, Int.add_comm m1, Int.add_comm m3]
  refine ⟨?_, two3 h3 h2 t1 t2, k3, two3 h5 h4 t1 t2, k5⟩
  grind
theorem Lc4.s3 {i : Nat} {m1 m2 m3 m4 : Int} (h : Lc4 i m1 m2 m3 m4) : Lc4 (i + 1) (m1 * 0 + m2 * 1) (m1 * (-1) + m2 * 0) (m3 * 0 + m4 * 1) (m3 * (-1) + m4 * 0) := by
  have k := h.mono (Nat.le_succ i)
  obtain ⟨h1, h2, h3, h4, h5⟩ := h
  obtain ⟨k1, k2, k3, k4, k5⟩ := k
  refine ⟨by grind, by omega, by omega, by omega, by omega⟩
theorem okLawChange (T : Txt K mg fa fd) : FnOk P w K mg base CX0 2 (fa 21) (fd 21) ["state", "many"] (spLawChange K) := by
  refine T.F__law_change.ok scLawChange (fun vs H Q E h => ?_) (fun cdv A outer s H vs Q E hr h => ?_)
  · obtain ⟨p, a, N, many, rfl, d, hN, h0, h10, kk⟩ := h
    rfl
  · obtain ⟨p, a, N, many, rfl, d, hN, h0, h10, kk⟩ := h
    refine ⟨_, (pss_cons (ps_set (i := 2) scLawChange.nd rfl (Or.inl rfl) (pe_tup (pa_cons pe_int (pa_cons pe_int (pa_cons pe_int (pa_cons pe_int pa_nil))))))
      (pss_cons (ps_for PassesOwn.never rfl (pi_range1 (by rfl) T.m_range (pa_cons (pe_call (sp := spLawNext K) (okLawNext T) hr (by rfl) T.G__law_next T.F__law_next.kp T.B__law_next .nil pass0 (pa_cons (pv 0) (pa_cons (pe_op op_add (pv 1) pe_int) pa_nil))) pa_nil)) (pg_name (i := 3) scLawChange.nd rfl (Or.inl rfl))
      (pss_cons (ps_set (i := 4) scLawChange.nd rfl (Or.inl rfl) (pe_op op_sub (pe_call (sp := spLawNext K) (okLawNext T) hr (by rfl) T.G__law_next T.F__law_next.kp T.B__law_next .nil pass0 (pa_cons (pv 0) (pa_cons pe_int pa_nil))) pe_int))
        (pss_one (ps_set (i := 2) scLawChange.nd rfl (Or.inl rfl) (pe_call (sp := spLawMul K) (okLawMul T) hr (by rfl) T.G__law_mul T.F__law_mul.kp T.B__law_mul .nil pass0 (pa_cons (pv 2) (pa_cons (pe_ix (ixL K) (pe_lst (pa_cons (pe_tup (pa_cons pe_int (pa_cons (pv 4) (pa_cons pe_int (pa_cons pe_int pa_nil))))) (pa_cons (pe_tup (pa_cons pe_int (pa_cons pe_int (pa_cons (pv 4) (pa_cons pe_int pa_nil))))) (pa_cons (pe_tup (pa_cons pe_int (pa_cons (pe_un un_neg pe_int) (pa_cons pe_int (pa_cons pe_int pa_nil))))) pa_nil)))) (pe_call (sp := spLawNext K) (okLawNext T) hr (by rfl) T.G__law_next T.F__law_next.kp T.B__law_next .nil pass0 (pa_cons (pv 0) (pa_cons pe_int pa_nil))) (fun _ _ => rfl)) pa_nil)))))))
      (pss_one (ps_ret (pv 2))))), ?_⟩
    clean_wf
    intro r1 H1 r1a r1b d1 k1
    clean_wf
    refine R.forN (lo := 0) (n := r1.toNat) (fun i σ H' => ∃ (b : Addr) (m1 m2 m3 m4 : Int) (x3 x4 : Option V), σ = [some (.ref p), some (.int many), some (.ref b), x3, x4] ∧ Dw H' p a (N + 1 + 2 * i) ∧ Kp p H1 H' ∧ SqT K H' b [.int m1, .int m2, .int m3, .int m4] ∧ Lc4 i m1 m2 m3 m4)
      ?_ (fun i σ H2 hi hPv => ?_) (fun σ H2 hPv => ?_)
    · exact ⟨_, 1, 0, 0, 1, _, _, rfl, d1, Kp.refl, by clean_wf, by decide, by decide, by decide, by decide, by decide⟩
    · obtain ⟨b, m1, m2, m3, m4, x3, x4, rfl, d2, k2, s2, l2⟩ := hPv
      have bd := l2.bd (by omega)
      obtain ⟨b1, b2, b3, b4⟩ := bd
      clean_wf
      intro r2 H3 r2a r2b d3 k3
      clean_wf
      intro r3 H4 r3a r3b d4 k4
      have key : ∀ {σ : L2.St} {t1 t2 t3 t4 : Int} {H5 : Hp} {c : Addr}, σ = [some (.ref p), some (.int many), some (.ref c), some (.int (0 + ↑i)), some (.int (r2 - 2))] → Dw H5 p a (N + 1 + 2 * i + 1 + 1) → Kp p H4 H5 →
          SqT K H5 c [.int (m1 * t1 + m2 * t3), .int (m1 * t2 + m2 * t4), .int (m3 * t1 + m4 * t3), .int (m3 * t2 + m4 * t4)] → Lc4 (i + 1) (m1 * t1 + m2 * t3) (m1 * t2 + m2 * t4) (m3 * t1 + m4 * t3) (m3 * t2 + m4 * t4) →
          ∃ (b : Addr) (m1 m2 m3 m4 : Int) (x3 x4 : Option V), σ = [some (.ref p), some (.int many), some (.ref b), x3, x4] ∧ Dw H5 p a (N + 1 + 2 * (i + 1)) ∧ Kp p H1 H5 ∧ SqT K H5 b [.int m1, .int m2, .int m3, .int m4] ∧ Lc4 (i + 1) m1 m2 m3 m4 :=
        fun e d5 k5 s5 l5 => ⟨_, _, _, _, _, _, _, e, d5, by sizeOf_list_dec, s5, l5⟩
      obtain rfl | rfl | rfl : r3 = 0 ∨ r3 = 1 ∨ r3 = 2 := by omega
      · skip
        clean_wf
        refine key (t1 := 1) (t2 := r2 - 2) (t3 := 0) (t4 := 1) rfl ?_ ?_ ?_ ?_
        · skip
          clean_wf
        · sizeOf_list_dec
        · skip
          clean_wf
        · exact l2.s1 (by omega) (by omega)
      · skip
        clean_wf
        refine key (t1 := 1) (t2 := 0) (t3 := r2 - 2) (t4 := 1) rfl ?_ ?_ ?_ ?_
        · skip
          clean_wf
        · sizeOf_list_dec
        · skip
          clean_wf
        · exact l2.s2 (by omega) (by omega)
      · skip
        clean_wf
        refine key (t1 := 0) (t2 := -1) (t3 := 1) (t4 := 0) rfl ?_ ?_ ?_ ?_
        · skip
          clean_wf
        · sizeOf_list_dec
        · skip
          clean_wf
        · exact l2.s3
    · obtain ⟨b, m1, m2, m3, m4, x3, x4, rfl, d2, k2, s2, l2⟩ := hPv
      clean_wf
      exact kk _ _ _ _ _ _ (d2.mono (by omega)) (by sizeOf_list_dec) s2 (l2.mono (by omega))
def spLawSquare (_ : PySem.W.Frag) : Sp := fun vs H Q _ => ∃ n : Int, vs = [.int n] ∧ 0 ≤ n ∧ n < 1000000000 ∧ Q (.bl (decide (rootI n * rootI n = n))) H
theorem uLawSquare {K : PySem.W.Frag} {H : Hp} {Q : VK} {E : XK} {vs : List V} {n : Int} (e : vs = [.int n]) (h0 : 0 ≤ n) (h1 : n < 1000000000) (kk : Q (.bl (decide (rootI n * rootI n = n))) H) : spLawSquare K vs H Q E := ⟨n, e, h0, h1, kk⟩
theorem uLawRoot {K : PySem.W.Frag} {H : Hp} {Q : VK} {E : XK} {vs : List V} {n : Int} (e : vs = [.int n]) (h0 : 0 ≤ n) (h1 : n < 1000000000000000000) (kk : Q (.int (rootI n)) H) : spLawRoot K vs H Q E := ⟨n, e, h0, by show n < 1152921504606846976; omega, kk⟩
theorem okLawSquare (T : Txt K mg fa fd) : FnOk P w K mg base CX0 2 (fa 22) (fd 22) ["n"] (spLawSquare K) := by
  refine T.F__law_square.ok scLawSquare (fun vs H Q E h => ?_) (fun cdv A outer s H vs Q E hr h => ?_)
  · obtain ⟨n, rfl, h0, h1, kk⟩ := h
    rfl
  · obtain ⟨n, rfl, h0, h1, kk⟩ := h
    refine ⟨_, (pss_one (ps_ret (pe_and (pe_cmp (pc_ge (pv 0) pe_int)) (pe_one (pe_cmp (pc_eqI (pe_op op_mulW (pe_call (sp := spLawRoot K) (okLawRoot T) hr (by rfl) T.G__law_root T.F__law_root.kp T.B__law_root .nil pass0 (pa_cons (pv 0) pa_nil)) (pe_call (sp := spLawRoot K) (okLawRoot T) hr (by rfl) T.G__law_root T.F__law_root.kp T.B__law_root .nil pass0 (pa_cons (pv 0) pa_nil))) (pv 0))))))), ?_⟩
    obtain ⟨r0, r1⟩ := uLawRoot0 h0
    have br : Bd 60 (rootI n) := Bd.om (by omega)
    clean_wf
    refine wayT (by omega) ?_
    clean_wf
def spLawKind (K : PySem.W.Frag) : Sp := fun vs H Q _ => ∃ (af : Addr) (a b c : Int), vs = [.ref af] ∧ SqT K H af [.int a, .int b, .int c] ∧ a.natAbs ≤ 10000 ∧ b.natAbs ≤ 10000 ∧ c.natAbs ≤ 10000 ∧ ∀ H', Same H H' → Q (.str (kindS (dsc a b c))) H'
theorem uLawKind {K : PySem.W.Frag} {H : Hp} {Q : VK} {E : XK} {vs : List V} {af : Addr} {a b c : Int} (e : vs = [.ref af]) (hs : SqT K H af [.int a, .int b, .int c]) (h1 : a.natAbs ≤ 10000) (h2 : b.natAbs ≤ 10000) (h3 : c.natAbs ≤ 10000) (kk : ∀ H', Same H H' → Q (.str (kindS (dsc a b c))) H') : spLawKind K vs H Q E := ⟨af, a, b, c, e, hs, h1, h2, h3, kk⟩
theorem okLawKind (T : Txt K mg fa fd) : FnOk P w K mg base CX0 3 (fa 23) (fd 23) ["form"] (spLawKind K) := by
  refine T.F__law_kind.ok scLawKind (fun vs H Q E h => ?_) (fun cdv A outer s H vs Q E hr h => ?_)
  · obtain ⟨af, a, b, c, rfl, hs, h1, h2, h3, kk⟩ := h
    rfl
  · obtain ⟨af, a, b, c, rfl, hs, h1, h2, h3, kk⟩ := h
    refine ⟨_, (pss_cons (ps_set (i := 1) scLawKind.nd rfl (Or.inl rfl) (pe_op op_sub (pe_op op_mulW (pe_ix (ixT K) (pv 0) pe_int (fun _ _ => rfl)) (pe_ix (ixT K) (pv 0) pe_int (fun _ _ => rfl))) (pe_op op_mulW (pe_op op_mulW pe_int (pe_ix (ixT K) (pv 0) pe_int (fun _ _ => rfl))) (pe_ix (ixT K) (pv 0) pe_int (fun _ _ => rfl)))))
      (pss_cons (ps_if (pt_cmp (pc_lt (pv 1) pe_int))
      (pss_one (ps_ret pe_str))
      pss_nil)
      (pss_cons (ps_if (pt_cmp (pc_eqI (pv 1) pe_int))
      (pss_one (ps_ret pe_str))
      pss_nil)
      (pss_one (ps_ret (pe_ix (ixL K) (pe_lst (pa_cons pe_str (pa_cons pe_str pa_nil))) (pe_callTy (intQ K) (by rfl) T.m_int (by decide +kernel) (pa_cons (pe_call (sp := spLawSquare K) (okLawSquare T) hr (by rfl) T.G__law_square T.F__law_square.kp T.B__law_square .nil pass0 (pa_cons (pv 1) pa_nil)) pa_nil)) (fun _ _ => rfl))))))), ?_⟩
    have ds := dsc_size (n := 10000) (by decide) (show (a.natAbs : Int) ≤ 10000 by omega) (show (b.natAbs : Int) ≤ 10000 by omega) (show (c.natAbs : Int) ≤ 10000 by omega)
    have ed : b * b - 4 * a * c = dsc a b c := rfl
    have ba : Bd 60 a := Bd.om (by omega)
    have bb : Bd 60 b := Bd.om (by omega)
    have bc : Bd 60 c := Bd.om (by omega)
    clean_wf
    rw [ed]
    generalize dsc a b c = d at *
    refine way2 (fun z => ?_) (fun z => ?_)
    · have e : kindS d = "definite" := by
        unfold kindS
        rw [if_pos z]
      rw [e] at kk
      clean_wf
      exact kk _ (Same.refl _)
    clean_wf
    refine way2 (fun y => ?_) (fun y => ?_)
    · have e : kindS d = "flat" := by
        unfold kindS
        rw [if_neg z, if_pos y]
      rw [e] at kk
      clean_wf
      exact kk _ (Same.refl _)
    clean_wf
    by_cases x : rootI d * rootI d = d
    · have e : kindS d = "split" := by
        unfold kindS
        rw [if_neg z, if_neg y, if_pos x]
      rw [e] at kk
      rw [if_pos (decide_eq_true x)]
      clean_wf
      exact kk _ (by assumption)
    · have e : kindS d = "indefinite" := by
        unfold kindS
        rw [if_neg z, if_neg y, if_neg x]
      rw [e] at kk
      rw [if_neg (fun h => x (of_decide_eq_true h))]
      clean_wf
      exact kk _ (by assumption)
def spLawSplit (K : PySem.W.Frag) : Sp := fun vs H Q _ => ∃ (p0 q0 : Addr) (N : Nat), vs = [.ref p0] ∧ Dw H p0 q0 N ∧ N ≤ 100000 ∧
  ∀ H' t a b c k, Dw H' p0 q0 (N + 10) → Kp p0 H H' → SqT K H' t [.int a, .int b, .int c] → SF k a b c → a.natAbs ≤ 100 → b.natAbs ≤ 100 → c.natAbs ≤ 100 → k ≤ 1000 → Q (.ref t) H'
theorem uLawSplit {K : PySem.W.Frag} {H : Hp} {Q : VK} {E : XK} {vs : List V} {p0 q0 : Addr} {N : Nat} (e : vs = [.ref p0]) (d : Dw H p0 q0 N) (hN : N ≤ 100000)
    (kk : ∀ H' t a b c k, Dw H' p0 q0 (N + 10) → Kp p0 H H' → SqT K H' t [.int a, .int b, .int c] → SF k a b c → a.natAbs ≤ 100 → b.natAbs ≤ 100 → c.natAbs ≤ 100 → k ≤ 1000 → Q (.ref t) H') : spLawSplit K vs H Q E := ⟨p0, q0, N, e, d, hN, kk⟩
theorem sf_of {g p q r s : Int} (g0 : g = 1 ∨ g = 2) (h : p * s ≠ q * r) (hp : p.natAbs ≤ 5) (hq : q.natAbs ≤ 5) (hr : r.natAbs ≤ 5) (hs : s.natAbs ≤ 5) :
    SF (g * ((p * s - q * r).natAbs : Int)) (g * p * r) (g * (p * s + q * r)) (g * q * s) ∧ (g * p * r).natAbs ≤ 100 ∧ (g * (p * s + q * r)).natAbs ≤ 100 ∧ (g * q * s).natAbs ≤ 100 ∧ g * ((p * s - q * r).natAbs : Int) ≤ 1000 := by
  have m1 : (p * r).natAbs ≤ 5 * 5 := by rw [Int.natAbs_mul]; exact Nat.mul_le_mul hp hr
  have m2 : (p * s).natAbs ≤ 5 * 5 := by rw [Int.natAbs_mul]; exact Nat.mul_le_mul hp hs
  have m3 : (q * r).natAbs ≤ 5 * 5 := by rw [Int.natAbs_mul]; exact Nat.mul_le_mul hq hr
  have m4 : (q * s).natAbs ≤ 5 * 5 := by rw [Int.natAbs_mul]; exact Nat.mul_le_mul hq hs
  have e : dsc (g * p * r) (g * (p * s + q * r)) (g * q * s) = g * g * ((p * s - q * r) * (p * s - q * r)) := by
    unfold dsc
    grind
  have e2 : g * ((p * s - q * r).natAbs : Int) * (g * ((p * s - q * r).natAbs : Int)) = g * g * ((p * s - q * r) * (p * s - q * r)) := by
    have : ((p * s - q * r).natAbs : Int) * ((p * s - q * r).natAbs : Int) = (p * s - q * r) * (p * s - q * r) := by
      rcases Int.natAbs_eq (p * s - q * r) with h | h <;> (conv => rhs; rw [h]) <;> grind
    grind
  rw [Int.mul_assoc g p r, Int.mul_assoc g q s] at *
  generalize p * r = x1 at *
  generalize p * s = x2 at *
  generalize q * r = x3 at *
  generalize q * s = x4 at *
  refine ⟨⟨by rw [e, e2], ?_⟩, ?_, ?_, ?_, ?_⟩
  all_goals rcases g0 with rfl | rfl <;> omega
theorem okLawSplit (T : Txt K mg fa fd) : FnOk P w K mg base CX0 2 (fa 24) (fd 24) ["state"] (spLawSplit K) := by
  refine T.F__law_split.ok scLawSplit (fun vs H Q E h => ?_) (fun cdv A outer s H vs Q E hr h => ?_)
  · obtain ⟨p0, q0, N, rfl, d0, hN, kk⟩ := h
    rfl
  · obtain ⟨p0, q0, N, rfl, d0, hN, kk⟩ := h
    refine ⟨_, (pss_cons (ps_asg (pe_lc (own := [("k", 6)]) (g := gName 6) (tt := tYes) rfl scLawSplit.nd (pi_range1 (by rfl) T.m_range (pa_cons pe_int pa_nil)) (blkOk_by (own := [("k", 6)]) (N := ["state", "p", "q", "r", "s", "g", "k"]) (sc := defScope sLawSplit) (by decide +kernel)) (fun _ _ _ _ _ => (pg_name (i := 6) scLawSplit.nd rfl (Or.inl rfl))) (fun _ _ _ _ _ => pts_nil) (fun _ _ _ _ _ => (pe_op op_sub (pe_call (sp := spLawNext K) (okLawNext T) hr (by rfl) T.G__law_next T.F__law_next.kp T.B__law_next .nil pass0 (pa_cons (pv 0) (pa_cons pe_int pa_nil))) pe_int))) (pgU K 4 (by rfl) (pgs_cons (pg_name (i := 1) scLawSplit.nd rfl (Or.inl rfl)) (pgs_cons (pg_name (i := 2) scLawSplit.nd rfl (Or.inl rfl)) (pgs_cons (pg_name (i := 3) scLawSplit.nd rfl (Or.inl rfl)) (pgs_cons (pg_name (i := 4) scLawSplit.nd rfl (Or.inl rfl)) pgs_nil))))))
      (C8.pss_cut (ps_if (pt_cmp (pc_eqI (pe_op op_mulW (pv 1) (pv 4)) (pe_op op_mulW (pv 2) (pv 3))))
      (pss_one (ps_asg (pe_tup (pa_cons pe_int (pa_cons (pe_call (sp := spLawNext K) (okLawNext T) hr (by rfl) T.G__law_next T.F__law_next.kp T.B__law_next .nil pass0 (pa_cons (pv 0) (pa_cons pe_int pa_nil))) (pa_cons pe_int (pa_cons (pe_op op_add pe_int (pe_call (sp := spLawNext K) (okLawNext T) hr (by rfl) T.G__law_next T.F__law_next.kp T.B__law_next .nil pass0 (pa_cons (pv 0) (pa_cons pe_int pa_nil)))) pa_nil))))) (pgT K 4 (by rfl) (pgs_cons (pg_name (i := 1) scLawSplit.nd rfl (Or.inl rfl)) (pgs_cons (pg_name (i := 2) scLawSplit.nd rfl (Or.inl rfl)) (pgs_cons (pg_name (i := 3) scLawSplit.nd rfl (Or.inl rfl)) (pgs_cons (pg_name (i := 4) scLawSplit.nd rfl (Or.inl rfl)) pgs_nil)))))))
      pss_nil)
      (pss_cons (ps_set (i := 5) scLawSplit.nd rfl (Or.inl rfl) (pe_op op_add pe_int (pe_op op_fdiv (pe_call (sp := spLawNext K) (okLawNext T) hr (by rfl) T.G__law_next T.F__law_next.kp T.B__law_next .nil pass0 (pa_cons (pv 0) (pa_cons pe_int pa_nil))) pe_int)))
      (pss_one (ps_ret (pe_tup (pa_cons (pe_op op_mulW (pe_op op_mulW (pv 5) (pv 1)) (pv 3)) (pa_cons (pe_op op_mulW (pv 5) (pe_op op_add (pe_op op_mulW (pv 1) (pv 4)) (pe_op op_mulW (pv 2) (pv 3)))) (pa_cons (pe_op op_mulW (pe_op op_mulW (pv 5) (pv 2)) (pv 4)) pa_nil))))))))), ?_⟩
    clean_wf
    refine R.lcI (c := 1) (fun x => x.natAbs ≤ 5) (by decide) d0 (fun i H' Q' hi d k q => ?_) (fun H2 D xs hD hl hx d2 k2 nD Dp => ?_)
    · skip
      clean_wf
      refine ⟨rfl, ?_⟩
      clean_wf
      intro r H3 ra rb d3 k3
      clean_wf
      exact q _ _ (by omega) d3 k3
    obtain ⟨m1, m2, m3, m4, rfl⟩ : ∃ m1 m2 m3 m4, xs = [m1, m2, m3, m4] := by
      match xs, hl with
      | [a, b, c, d], _ => exact ⟨a, b, c, d, rfl⟩
    have h1 := hx m1 (by simp)
    have h2 := hx m2 (by simp)
    have h3 := hx m3 (by simp)
    have h4 := hx m4 (by simp)
    clear hx hl
    replace hD : H2 D = some (.lst [.int m1, .int m2, .int m3, .int m4]) := hD
    refine r_gunl (SqL.of hD) rfl ?_
    have c1 : Bd 8 m1 := Bd.of h1 (by decide)
    have c2 : Bd 8 m2 := Bd.of h2 (by decide)
    have c3 : Bd 8 m3 := Bd.of h3 (by decide)
    have c4 : Bd 8 m4 := Bd.of h4 (by decide)
    clean_wf
    refine R.cut (Mid := fun σ H' => ∃ (x5 x6 : Option V) (p q r s : Int), σ = [some (.ref p0), some (.int p), some (.int q), some (.int r), some (.int s), x5, x6] ∧ Dw H' p0 q0 (N + 6) ∧ Kp p0 H H' ∧ p * s ≠ q * r ∧ p.natAbs ≤ 5 ∧ q.natAbs ≤ 5 ∧ r.natAbs ≤ 5 ∧ s.natAbs ≤ 5) ?_ (fun σ H3 hM => ?_)
    · skip
      clean_wf
      refine way2 (fun z => ?_) (fun z => ?_)
      · skip
        clean_wf
        intro r1 H3 r1a r1b d3 k3
        clean_wf
        intro r2 H4 r2a r2b d4 k4
        clean_wf
        refine ⟨_, _, 1, r1, 1, 3 + r2, rfl, d4.same sn, ?_, by omega, by omega, by omega, by omega, by omega⟩
        sizeOf_list_dec
      · skip
        clean_wf
        exact ⟨_, _, m1, m2, m3, m4, rfl, d2.mono (by show N + 4 ≤ N + 6; omega), k2, z, h1, h2, h3, h4⟩
    · obtain ⟨x5, x6, p, q, r, s, rfl, d3, k3, hne, g1, g2, g3, g4⟩ := hM
      clear c1 c2 c3 c4
      have c1 : Bd 8 p := Bd.of g1 (by decide)
      have c2 : Bd 8 q := Bd.of g2 (by decide)
      have c3 : Bd 8 r := Bd.of g3 (by decide)
      have c4 : Bd 8 s := Bd.of g4 (by decide)
      clean_wf
      intro r1 H4 r1a r1b d4 k4
      clean_wf
      obtain ⟨f, f1, f2, f3, f4⟩ := sf_of (g := 1 + r1 / 3) (by omega) hne g1 g2 g3 g4
      refine kk _ _ _ _ _ _ ((d4.same sn).mono (by omega)) ?_ (SqT.of ht) f f1 f2 f3 f4
      sizeOf_list_dec
def spLawFlat (K : PySem.W.Frag) : Sp := fun vs H Q _ => ∃ (p0 q0 : Addr) (N : Nat), vs = [.ref p0] ∧ Dw H p0 q0 N ∧ N ≤ 100000 ∧
  ∀ H' t a b c g p q, Dw H' p0 q0 (N + 10) → Kp p0 H H' → SqT K H' t [.int a, .int b, .int c] → g ≠ 0 → (p ≠ 0 ∨ q ≠ 0) → a = g * (p * p) → b = 2 * (g * (p * q)) → c = g * (q * q) → g.natAbs ≤ 3 → p.natAbs ≤ 3 → q.natAbs ≤ 3 → Q (.ref t) H'
theorem uLawFlat {K : PySem.W.Frag} {H : Hp} {Q : VK} {E : XK} {vs : List V} {p0 q0 : Addr} {N : Nat} (e : vs = [.ref p0]) (d : Dw H p0 q0 N) (hN : N ≤ 100000)
    (kk : ∀ H' t a b c g p q, Dw H' p0 q0 (N + 10) → Kp p0 H H' → SqT K H' t [.int a, .int b, .int c] → g ≠ 0 → (p ≠ 0 ∨ q ≠ 0) → a = g * (p * p) → b = 2 * (g * (p * q)) → c = g * (q * q) → g.natAbs ≤ 3 → p.natAbs ≤ 3 → q.natAbs ≤ 3 → Q (.ref t) H') : spLawFlat K vs H Q E := ⟨p0, q0, N, e, d, hN, kk⟩
theorem okLawFlat (T : Txt K mg fa fd) : FnOk P w K mg base CX0 2 (fa 25) (fd 25) ["state"] (spLawFlat K) := by
  refine T.F__law_flat.ok scLawFlat (fun vs H Q E h => ?_) (fun cdv A outer s H vs Q E hr h => ?_)
  · obtain ⟨p0, q0, N, rfl, d0, hN, kk⟩ := h
    rfl
  · obtain ⟨p0, q0, N, rfl, d0, hN, kk⟩ := h
    refine ⟨_, (pss_cons (ps_set (i := 1) scLawFlat.nd rfl (Or.inl rfl) (pe_op op_sub (pe_call (sp := spLawNext K) (okLawNext T) hr (by rfl) T.G__law_next T.F__law_next.kp T.B__law_next .nil pass0 (pa_cons (pv 0) (pa_cons pe_int pa_nil))) pe_int))
      (pss_cons (ps_set (i := 2) scLawFlat.nd rfl (Or.inl rfl) (pe_op op_sub (pe_call (sp := spLawNext K) (okLawNext T) hr (by rfl) T.G__law_next T.F__law_next.kp T.B__law_next .nil pass0 (pa_cons (pv 0) (pa_cons pe_int pa_nil))) pe_int))
      (pss_cons (ps_set (i := 3) scLawFlat.nd rfl (Or.inl rfl) (pe_ix (ixL K) (pe_lst (pa_cons pe_int (pa_cons pe_int (pa_cons (pe_un un_neg pe_int) (pa_cons pe_int (pa_cons (pe_un un_neg pe_int) pa_nil)))))) (pe_call (sp := spLawNext K) (okLawNext T) hr (by rfl) T.G__law_next T.F__law_next.kp T.B__law_next .nil pass0 (pa_cons (pv 0) (pa_cons pe_int pa_nil))) (fun _ _ => rfl)))
      (C8.pss_cut (ps_if (PW.pt (pw_and (pt_cmp (pc_eqI (pv 1) pe_int)) (pw_and1 (pt_cmp (pc_eqI (pv 2) pe_int)))))
      (pss_one (ps_set (i := 2) scLawFlat.nd rfl (Or.inl rfl) pe_int))
      pss_nil)
      (pss_one (ps_ret (pe_tup (pa_cons (pe_op op_mulW (pe_op op_mulW (pv 3) (pv 1)) (pv 1)) (pa_cons (pe_op op_mulW (pe_op op_mulW (pe_op op_mulW pe_int (pv 3)) (pv 1)) (pv 2)) (pa_cons (pe_op op_mulW (pe_op op_mulW (pv 3) (pv 2)) (pv 2)) pa_nil)))))))))), ?_⟩
    clean_wf
    intro r1 H2 r1a r1b d2 k2
    clean_wf
    intro r2 H3 r2a r2b d3 k3
    clean_wf
    intro r3 H4 r3a r3b d4 k4
    obtain ⟨g, hg, eg⟩ : ∃ v : Int, (v = 1 ∨ v = -1 ∨ v = 2 ∨ v = -3) ∧ atI [V.int 1, V.int 1, V.int (-1), V.int 2, V.int (-3)] r3 = some (.int v) := by
      obtain rfl | rfl | rfl | rfl | rfl : r3 = 0 ∨ r3 = 1 ∨ r3 = 2 ∨ r3 = 3 ∨ r3 = 4 := by omega
      · exact ⟨1, .inl rfl, rfl⟩
      · exact ⟨1, .inl rfl, rfl⟩
      · exact ⟨-1, .inr (.inl rfl), rfl⟩
      · exact ⟨2, .inr (.inr (.inl rfl)), rfl⟩
      · exact ⟨-3, .inr (.inr (.inr rfl)), rfl⟩
    refine R.ixL (xs := [V.int 1, V.int 1, V.int (-1), V.int 2, V.int (-3)]) (by array_get_dec) eg ?_
    clean_wf
    have kf : Kp p0 H H4 := by sizeOf_list_dec
    refine R.cut (Mid := fun σ H' => ∃ (p q : Int), σ = [some (.ref p0), some (.int p), some (.int q), some (.int g)] ∧ H' = H4 ∧ (p ≠ 0 ∨ q ≠ 0) ∧ p.natAbs ≤ 3 ∧ q.natAbs ≤ 3) ?_ (fun σ H5 hM => ?_)
    · skip
      clean_wf
      refine way2 (fun z => ?_) (fun z => ?_)
      · skip
        clean_wf
        refine way2 (fun z2 => ?_) (fun z2 => ?_)
        · skip
          clean_wf
          exact ⟨_, 1, rfl, rfl, .inr (by decide), by omega, by decide⟩
        · skip
          clean_wf
          exact ⟨_, _, rfl, rfl, .inr z2, by omega, by omega⟩
      · skip
        clean_wf
        exact ⟨_, _, rfl, rfl, .inl z, by omega, by omega⟩
    · obtain ⟨p, q, rfl, rfl, hne, g1, g2⟩ := hM
      have c1 : Bd 8 p := Bd.of g1 (by decide)
      have c2 : Bd 8 q := Bd.of g2 (by decide)
      have bg : Bd 8 g := by rcases hg with rfl | rfl | rfl | rfl <;> (unfold Bd; decide)
      clean_wf
      refine kk _ _ _ _ _ g p q ((d4.same sn).mono (by omega)) ?_ (SqT.of ht) (by omega) hne (Int.mul_assoc _ _ _) ?_ (Int.mul_assoc _ _ _) (by omega) g1 g2
      · exact kf.trans (same_kp sn)
      · grind
def spLawForm (K : PySem.W.Frag) : Sp := fun vs H Q _ => ∃ (p q : Addr) (N : Nat) (ind : Bool), vs = [.ref p, .str (sortS ind)] ∧ Dw H p q N ∧ N ≤ 100000 ∧
  ∀ H' t a b c, Dw H' p q (N + 200) → Kp p H H' → SqT K H' t [.int a, .int b, .int c] → FormOk ind a b c → Q (.ref t) H'
theorem uLawForm {K : PySem.W.Frag} {H : Hp} {Q : VK} {E : XK} {vs : List V} {p q : Addr} {N : Nat} (ind : Bool) (e : vs = [.ref p, .str (sortS ind)]) (d : Dw H p q N) (hN : N ≤ 100000)
    (kk : ∀ H' t a b c, Dw H' p q (N + 200) → Kp p H H' → SqT K H' t [.int a, .int b, .int c] → FormOk ind a b c → Q (.ref t) H') : spLawForm K vs H Q E := ⟨p, q, N, ind, e, d, hN, kk⟩
theorem sgn_at {r : Int} (h0 : 0 ≤ r) (h1 : r < 2) : ∃ v : Int, (v = 1 ∨ v = -1) ∧ atI [V.int 1, V.int (-1)] r = some (.int v) := by
  obtain rfl | rfl : r = 0 ∨ r = 1 := by omega
  · exact ⟨1, .inl rfl, rfl⟩
  · exact ⟨-1, .inr rfl, rfl⟩
theorem sgn_abs {x v : Int} (h : v = 1 ∨ v = -1) : (x * v).natAbs = x.natAbs := by
  rcases h with rfl | rfl
  · rw [Int.mul_one]
  · rw [Int.mul_neg, Int.mul_one, Int.natAbs_neg]
theorem okLawForm (T : Txt K mg fa fd) : FnOk P w K mg base CX0 4 (fa 26) (fd 26) ["state", "sort"] (spLawForm K) := by
  refine T.F__law_form.ok scLawForm (fun vs H Q E h => ?_) (fun cdv A outer s H vs Q E hr h => ?_)
  · obtain ⟨p, q, N, ind, rfl, d0, hN, kk⟩ := h
    rfl
  · obtain ⟨p, q, N, ind, rfl, d0, hN, kk⟩ := h
    refine ⟨_, (pss_cons (ps_if (pt_cmpR op_eq (pv 1) pe_str (nomark _))
      (pss_one ps_never)
      pss_nil)
      (pss_cons (ps_if (pt_cmpR op_eq (pv 1) pe_str (nomark _))
      (pss_one ps_never)
      pss_nil)
      (pss_cons (ps_for PassesOwn.never rfl (pi_range1 (by rfl) T.m_range (pa_cons pe_int pa_nil)) (pg_name (i := 2) scLawForm.nd rfl (Or.inl rfl))
      (pss_cons (ps_set (i := 3) scLawForm.nd rfl (Or.inl rfl) (pe_op op_mulW (pe_op op_add pe_int (pe_call (sp := spLawNext K) (okLawNext T) (hr.mono (by decide)) (by rfl) T.G__law_next T.F__law_next.kp T.B__law_next .nil pass0 (pa_cons (pv 0) (pa_cons pe_int pa_nil)))) (pe_ix (ixL K) (pe_lst (pa_cons pe_int (pa_cons (pe_un un_neg pe_int) pa_nil))) (pe_call (sp := spLawNext K) (okLawNext T) (hr.mono (by decide)) (by rfl) T.G__law_next T.F__law_next.kp T.B__law_next .nil pass0 (pa_cons (pv 0) (pa_cons pe_int pa_nil))) (fun _ _ => rfl))))
        (pss_cons (ps_set (i := 4) scLawForm.nd rfl (Or.inl rfl) (pe_op op_mulW (pe_op op_add pe_int (pe_call (sp := spLawNext K) (okLawNext T) (hr.mono (by decide)) (by rfl) T.G__law_next T.F__law_next.kp T.B__law_next .nil pass0 (pa_cons (pv 0) (pa_cons pe_int pa_nil)))) (pe_ix (ixL K) (pe_lst (pa_cons pe_int (pa_cons (pe_un un_neg pe_int) pa_nil))) (pe_call (sp := spLawNext K) (okLawNext T) (hr.mono (by decide)) (by rfl) T.G__law_next T.F__law_next.kp T.B__law_next .nil pass0 (pa_cons (pv 0) (pa_cons pe_int pa_nil))) (fun _ _ => rfl))))
        (pss_cons (ps_set (i := 5) scLawForm.nd rfl (Or.inl rfl) (pe_tup (pa_cons (pv 3) (pa_cons (pe_op op_sub (pe_call (sp := spLawNext K) (okLawNext T) (hr.mono (by decide)) (by rfl) T.G__law_next T.F__law_next.kp T.B__law_next .nil pass0 (pa_cons (pv 0) (pa_cons pe_int pa_nil))) pe_int) (pa_cons (pv 4) pa_nil)))))
        (pss_one (ps_if (pt_cmpR op_eq (pe_call (sp := spLawKind K) (okLawKind T) hr (by rfl) T.G__law_kind T.F__law_kind.kp T.B__law_kind .nil pass0 (pa_cons (pv 5) pa_nil)) (pv 1) (nomark _))
        (pss_one (ps_ret (pv 5)))
        pss_nil))))))
      (pss_one (ps_ret (pe_ix (ixL K) (pe_lst (pa_cons (pe_tup (pa_cons pe_int (pa_cons pe_int (pa_cons pe_int pa_nil)))) (pa_cons (pe_tup (pa_cons pe_int (pa_cons pe_int (pa_cons (pe_un un_neg pe_int) pa_nil)))) pa_nil))) (pe_callTy (intQ K) (by rfl) T.m_int (by decide +kernel) (pa_cons (pe_cmpR op_eq (pv 1) pe_str (nomark _)) pa_nil)) (fun _ _ => rfl))))))), ?_⟩
    have n1 : ∀ ind : Bool, ¬ (V.str (sortS ind) = V.str "split") := by
      intro ind h
      injection h with h
      cases ind <;> exact absurd h (by decide)
    have n2 : ∀ ind : Bool, ¬ (V.str (sortS ind) = V.str "flat") := by
      intro ind h
      injection h with h
      cases ind <;> exact absurd h (by decide)
    have n3 : ∀ ind : Bool, decide (V.str (sortS ind) = V.str "indefinite") = ind := by
      intro ind
      cases ind
      · exact decide_eq_false (fun h => by injection h with h; exact absurd h (by decide))
      · exact decide_eq_true rfl
    clean_wf
    refine wayF (n1 ind) ?_
    clean_wf
    refine wayF (n2 ind) ?_
    clean_wf
    refine R.forN (lo := 0) (n := Int.toNat 30) (fun i σ H' => ∃ (x2 x3 x4 x5 : Option V), σ = [some (.ref p), some (.str (sortS ind)), x2, x3, x4, x5] ∧ Dw H' p q (N + 5 * i) ∧ Kp p H H')
      ⟨_, _, _, _, rfl, d0, Kp.refl⟩ (fun i σ H' hi hPv => ?_) (fun σ H' hPv => ?_)
    · obtain ⟨x2, x3, x4, x5, rfl, dw, kp⟩ := hPv
      replace hi : i < 30 := hi
      clean_wf
      intro r1 H1 r1a r1b d1 k1
      clean_wf
      intro r2 H2 r2a r2b d2 k2
      obtain ⟨v1, hv1, ev1⟩ := sgn_at r2a r2b
      refine R.ixL (xs := [V.int 1, V.int (-1)]) (by array_get_dec) ev1 ?_
      have z1 := sgn_abs (x := 1 + r1) hv1
      clean_wf
      intro r3 H3 r3a r3b d3 k3
      clean_wf
      intro r4 H4 r4a r4b d4 k4
      obtain ⟨v2, hv2, ev2⟩ := sgn_at r4a r4b
      refine R.ixL (xs := [V.int 1, V.int (-1)]) (by array_get_dec) ev2 ?_
      have z2 := sgn_abs (x := 1 + r3) hv2
      clean_wf
      intro r5 H5 r5a r5b d5 k5
      generalize (1 + r1) * v1 = a at *
      generalize (1 + r3) * v2 = c at *
      clean_wf
      intro H6 s6
      clean_wf
      refine way2 (fun z => ?_) (fun z => ?_)
      · skip
        clean_wf
        refine kk _ _ _ _ _ ?_ ?_ (by simp_wf) ⟨by omega, by omega, by omega, ?_⟩
        · exact Dw.mono (N := N + 5 * i + 1 + 1 + 1 + 1 + 1) (by clean_wf) (by omega)
        · sizeOf_list_dec
        · injection z
      · skip
        clean_wf
        refine ⟨_, _, _, _, rfl, Dw.mono (N := N + 5 * i + 1 + 1 + 1 + 1 + 1) (by clean_wf) (by omega), ?_⟩
        sizeOf_list_dec
    · obtain ⟨x2, x3, x4, x5, rfl, dw, kp⟩ := hPv
      replace dw : Dw H' p q (N + 5 * 30) := dw
      clean_wf
      rw [n3 ind]
      cases ind
      · skip
        clean_wf
        refine kk _ _ 1 1 2 ?_ ?_ (by simp_wf) ⟨by decide, by decide, by decide, by decide +kernel⟩
        · exact Dw.mono (N := N + 5 * 30) (by clean_wf) (by omega)
        · sizeOf_list_dec
      · skip
        clean_wf
        refine kk _ _ 1 0 (-2) ?_ ?_ (by simp_wf) ⟨by decide, by decide, by decide, by decide +kernel⟩
        · exact Dw.mono (N := N + 5 * 30) (by clean_wf) (by omega)
        · sizeOf_list_dec
/-- primitive forms that the law draws -/
structure PX (a b c : Int) : Prop where
  a1 : a.natAbs ≤ 5
  b1 : b.natAbs ≤ 6
  c1 : c.natAbs ≤ 5
  one : gI (gI a b) c = 1
  d0 : dsc a b c ≠ 0
theorem px_neg {a b c : Int} (h : PX a b c) : PX (-a) (-b) (-c) := by
  obtain ⟨h1, h2, h3, h4, h5⟩ := h
  refine ⟨by omega, by omega, by omega, ?_, ?_⟩
  · unfold gI at *
    rw [Int.natAbs_neg, Int.natAbs_neg, Int.natAbs_neg]
    exact h4
  · have e : dsc (-a) (-b) (-c) = dsc a b c := by
      unfold dsc
      grind
    rw [e]
    exact h5
theorem px_div {a b c : Int} (h1 : a.natAbs ≤ 5) (h2 : b.natAbs ≤ 6) (h3 : c.natAbs ≤ 5) (d0 : dsc a b c ≠ 0) : gI (gI a b) c ≠ 0 ∧ (gI (gI a b) c).natAbs ≤ 20 ∧ PX (a.fdiv (gI (gI a b) c)) (b.fdiv (gI (gI a b) c)) (c.fdiv (gI (gI a b) c)) := by
  have e : gI (gI a b) c = ((Nat.gcd (Nat.gcd a.natAbs b.natAbs) c.natAbs : Nat) : Int) := rfl
  rw [e]
  have G0 : Nat.gcd (Nat.gcd a.natAbs b.natAbs) c.natAbs ≠ 0 := by
    intro z
    have z1 := Nat.eq_zero_of_gcd_eq_zero_right z
    have z2 := Nat.eq_zero_of_gcd_eq_zero_left z
    have z3 := Nat.eq_zero_of_gcd_eq_zero_left z2
    have z4 := Nat.eq_zero_of_gcd_eq_zero_right z2
    refine d0 ?_
    rw [show a = 0 by omega, show b = 0 by omega, show c = 0 by omega]
    rfl
  have dA : Nat.gcd (Nat.gcd a.natAbs b.natAbs) c.natAbs ∣ a.natAbs := Nat.dvd_trans (Nat.gcd_dvd_left _ _) (Nat.gcd_dvd_left _ _)
  have dB : Nat.gcd (Nat.gcd a.natAbs b.natAbs) c.natAbs ∣ b.natAbs := Nat.dvd_trans (Nat.gcd_dvd_left _ _) (Nat.gcd_dvd_right _ _)
  have dC : Nat.gcd (Nat.gcd a.natAbs b.natAbs) c.natAbs ∣ c.natAbs := Nat.gcd_dvd_right _ _
  obtain ⟨x, hx⟩ := Int.ofNat_dvd_left.mpr dA
  obtain ⟨y, hy⟩ := Int.ofNat_dvd_left.mpr dB
  obtain ⟨z, hz⟩ := Int.ofNat_dvd_left.mpr dC
  have ax : a.natAbs = Nat.gcd (Nat.gcd a.natAbs b.natAbs) c.natAbs * x.natAbs := by
    have h := congrArg Int.natAbs hx
    rw [Int.natAbs_mul] at h
    exact h
  have ay : b.natAbs = Nat.gcd (Nat.gcd a.natAbs b.natAbs) c.natAbs * y.natAbs := by
    have h := congrArg Int.natAbs hy
    rw [Int.natAbs_mul] at h
    exact h
  have az : c.natAbs = Nat.gcd (Nat.gcd a.natAbs b.natAbs) c.natAbs * z.natAbs := by
    have h := congrArg Int.natAbs hz
    rw [Int.natAbs_mul] at h
    exact h
  have co : Nat.gcd (Nat.gcd x.natAbs y.natAbs) z.natAbs = 1 := by
    have e2 : Nat.gcd (Nat.gcd a.natAbs b.natAbs) c.natAbs * Nat.gcd (Nat.gcd x.natAbs y.natAbs) z.natAbs = Nat.gcd (Nat.gcd a.natAbs b.natAbs) c.natAbs * 1 := by
      rw [← Nat.gcd_mul_left, ← Nat.gcd_mul_left, ← ax, ← ay, ← az, Nat.mul_one]
    exact Nat.eq_of_mul_eq_mul_left (by omega) e2
  have lA : Nat.gcd (Nat.gcd a.natAbs b.natAbs) c.natAbs ≤ 6 := by
    by_cases z1 : a.natAbs = 0
    · by_cases z2 : b.natAbs = 0
      · rw [z1, z2]
        rw [Nat.gcd_zero_right, Nat.gcd_zero_left]
        omega
      · exact Nat.le_trans (Nat.le_of_dvd (by omega) dB) h2
    · exact Nat.le_trans (Nat.le_of_dvd (by omega) dA) (by omega)
  generalize Nat.gcd (Nat.gcd a.natAbs b.natAbs) c.natAbs = G at *
  have g0 : (G : Int) ≠ 0 := by omega
  have fx : a.fdiv (G : Int) = x := by rw [hx, Int.mul_fdiv_cancel_left _ g0]
  have fy : b.fdiv (G : Int) = y := by rw [hy, Int.mul_fdiv_cancel_left _ g0]
  have fz : c.fdiv (G : Int) = z := by rw [hz, Int.mul_fdiv_cancel_left _ g0]
  rw [fx, fy, fz]
  have l1 : x.natAbs ≤ a.natAbs := by rw [ax]; exact Nat.le_mul_of_pos_left _ (by omega)
  have l2 : y.natAbs ≤ b.natAbs := by rw [ay]; exact Nat.le_mul_of_pos_left _ (by omega)
  have l3 : z.natAbs ≤ c.natAbs := by rw [az]; exact Nat.le_mul_of_pos_left _ (by omega)
  refine ⟨g0, by omega, by omega, by omega, by omega, ?_, ?_⟩
  · show ((Nat.gcd (Nat.gcd x.natAbs y.natAbs) z.natAbs : Nat) : Int) = 1
    rw [co]
    rfl
  · intro w
    refine d0 ?_
    have e3 : dsc a b c = (G : Int) * (G : Int) * dsc x y z := by
      rw [hx, hy, hz]
      unfold dsc
      grind
    rw [e3, w, Int.mul_zero]
def spLawPrimitive (K : PySem.W.Frag) : Sp := fun vs H Q _ => ∃ (p q : Addr) (N : Nat) (ind : Bool), vs = [.ref p, .str (sortS ind)] ∧ Dw H p q N ∧ N ≤ 10000 ∧
  ∀ H' t a b c, Dw H' p q (N + 200) → Kp p H H' → SqT K H' t [.int a, .int b, .int c] → PX a b c → Q (.ref t) H'
theorem okLawPrimitive (T : Txt K mg fa fd) : FnOk P w K mg base CX0 5 (fa 27) (fd 27) ["state", "name"] (spLawPrimitive K) := by
  refine T.F__law_primitive.ok scLawPrimitive (fun vs H Q E h => ?_) (fun cdv A outer s H vs Q E hr h => ?_)
  · obtain ⟨p, q, N, ind, rfl, d0, hN, kk⟩ := h
    rfl
  · obtain ⟨p, q, N, ind, rfl, d0, hN, kk⟩ := h
    refine ⟨_, (pss_cons (ps_set (i := 2) scLawPrimitive.nd rfl (Or.inl rfl) (pe_call (sp := spLawForm K) (okLawForm T) hr (by rfl) T.G__law_form T.F__law_form.kp T.B__law_form .nil pass0 (pa_cons (pv 0) (pa_cons (pv 1) pa_nil))))
      (pss_cons (ps_set (i := 3) scLawPrimitive.nd rfl (Or.inr rfl) (pe_call (sp := spLawMeasure K) (okLawMeasure T) (hr.mono (by decide)) (by rfl) T.G__law_measure T.F__law_measure.kp T.B__law_measure .nil pass0 (pa_cons (pe_call (sp := spLawMeasure K) (okLawMeasure T) (hr.mono (by decide)) (by rfl) T.G__law_measure T.F__law_measure.kp T.B__law_measure .nil pass0 (pa_cons (pe_ix (ixT K) (pv 2) pe_int (fun _ _ => rfl)) (pa_cons (pe_ix (ixT K) (pv 2) pe_int (fun _ _ => rfl)) pa_nil))) (pa_cons (pe_ix (ixT K) (pv 2) pe_int (fun _ _ => rfl)) pa_nil))))
      (pss_cons (ps_set (i := 2) scLawPrimitive.nd rfl (Or.inl rfl) (pe_callTy (tupQ K) (by rfl) T.m_tuple (by decide +kernel) (pa_cons (pe_lc (own := [("part", 4)]) (g := gName 4) (tt := tYes) rfl scLawPrimitive.nd (piT K (pv 2)) (blkOk_by (own := [("part", 4)]) (N := ["state", "name", "form", "g", "part"]) (sc := defScope sLawPrimitive) (by decide +kernel)) (fun _ _ _ _ _ => (pg_name (i := 4) scLawPrimitive.nd rfl (Or.inl rfl))) (fun _ _ _ _ _ => pts_nil) (fun _ _ _ _ _ => (pe_op op_fdivX (pv 4) (pv 3)))) pa_nil)))
      (C8.pss_cut (ps_if (PW.pt (pw_and (pt_cmpR op_eq (pv 1) pe_str (nomark _)) (pw_and1 (pt_cmp (pc_lt (pe_ix (ixT K) (pv 2) pe_int (fun _ _ => rfl)) pe_int)))))
      (pss_one (ps_set (i := 2) scLawPrimitive.nd rfl (Or.inl rfl) (pe_callTy (tupQ K) (by rfl) T.m_tuple (by decide +kernel) (pa_cons (pe_lc (own := [("part", 4)]) (g := gName 4) (tt := tYes) rfl scLawPrimitive.nd (piT K (pv 2)) (blkOk_by (own := [("part", 4)]) (N := ["state", "name", "form", "g", "part"]) (sc := defScope sLawPrimitive) (by decide +kernel)) (fun _ _ _ _ _ => (pg_name (i := 4) scLawPrimitive.nd rfl (Or.inl rfl))) (fun _ _ _ _ _ => pts_nil) (fun _ _ _ _ _ => (pe_un un_neg (pv 4)))) pa_nil))))
      pss_nil)
      (pss_one (ps_ret (pv 2))))))), ?_⟩
    clean_wf
    refine uLawForm ind rfl d0 (by omega) ?_
    intro H1 t a b c d1 k1 sF hF
    obtain ⟨f1, f2, f3, f4⟩ := hF
    have dne : dsc a b c ≠ 0 := by
      cases ind
      · have := kindS_def f4
        omega
      · have := (kindS_ind f4).1
        omega
    obtain ⟨g0, g1, px⟩ := px_div f1 f2 f3 dne
    have ba : Bd 60 a := Bd.om (by omega)
    have bb : Bd 60 b := Bd.om (by omega)
    have bc : Bd 60 c := Bd.om (by omega)
    have bab : Bd 60 (gI a b) := by
      show ((Nat.gcd a.natAbs b.natAbs : Nat) : Int).natAbs < 2 ^ 60
      rw [Int.natAbs_natCast]
      by_cases z : a = 0
      · subst z
        rw [show (0 : Int).natAbs = 0 from rfl, Nat.gcd_zero_left]
        exact bb
      · exact Nat.lt_of_le_of_lt (Nat.gcd_le_left b.natAbs (show 0 < a.natAbs by omega)) ba
    clean_wf
    generalize gI (gI a b) c = g at *
    have bg : Bd 60 g := Bd.om (by omega)
    refine R.refs (S := SqT K _) (xs := [.int a, .int b, .int c]) sF ?_
    refine R.lcT (ns := [a, b, c]) (fun x => x.fdiv g) (by show 3 ≤ 900; decide) sF (fun n H' Q' hn sm qx => ?_) (fun H2 D2 hD2 s2 nD2 => ?_)
    · skip
      clean_wf
      refine ⟨rfl, ?_⟩
      clean_wf
    replace hD2 : H2 D2 = some (.lst [.int (a.fdiv g), .int (b.fdiv g), .int (c.fdiv g)]) := hD2
    generalize a.fdiv g = a' at *
    generalize b.fdiv g = b' at *
    generalize c.fdiv g = c' at *
    clear sF
    clean_wf
    have sF := SqT.of (K := K) ht
    have dN := d1.same (s2.trans sn)
    have kN : Kp p H HN := k1.trans (same_kp (s2.trans sn))
    clear ht sn s2 hD2 nD2 d1 k1
    generalize tn = tF at *
    generalize HN = H3 at *
    refine R.cut (Mid := fun σ H' => ∃ (tF : Addr) (x4 : Option V) (a b c : Int), σ = [some (.ref p), some (.str (sortS ind)), some (.ref tF), some (.int g), x4] ∧ SqT K H' tF [.int a, .int b, .int c] ∧ PX a b c ∧ Dw H' p q (N + 200) ∧ Kp p H H') ?_ (fun σ H' hM => ?_)
    · have b1 := px.a1
      have b2 := px.b1
      have b3 := px.c1
      clean_wf
      cases ind
      · rw [decide_eq_true (show V.str (sortS false) = V.str "definite" from rfl)]
        clean_wf
        refine way2 (fun z => ?_) (fun z => ?_)
        · skip
          clean_wf
          refine R.refs (S := SqT K _) (xs := [.int a', .int b', .int c']) sF ?_
          refine R.lcT (ns := [a', b', c']) (fun x => -x) (by show 3 ≤ 900; decide) sF (fun n H' Q' hn sm qx => ?_) (fun H2 D2 hD2 s2 nD2 => ?_)
          · skip
            clean_wf
            refine ⟨rfl, ?_⟩
            clean_wf
          replace hD2 : H2 D2 = some (.lst [.int (-a'), .int (-b'), .int (-c')]) := hD2
          clean_wf
          exact ⟨_, _, -a', -b', -c', rfl, SqT.of ht, px_neg px, dN.same (s2.trans sn), kN.trans (same_kp (s2.trans sn))⟩
        · skip
          clean_wf
          exact ⟨tF, _, a', b', c', rfl, sF, px, dN, kN⟩
      · rw [decide_eq_false (fun h => by injection h with h; exact absurd (show ("indefinite" : Str) = "definite" from h) (by decide) : ¬ V.str (sortS true) = V.str "definite")]
        clean_wf
        exact ⟨tF, _, a', b', c', rfl, sF, px, dN, kN⟩
    · obtain ⟨tF, x4, a, b, c, rfl, sF, px, dw, kp⟩ := hM
      clean_wf
      exact kk _ _ _ _ _ dw kp sF px
def spLawSigns (K : PySem.W.Frag) : Sp := fun vs H Q _ => ∃ d n : Int, vs = [.int d, .int n] ∧ d ≠ 0 ∧ d.natAbs ≤ 200 ∧ ∀ H' t, Same H H' → H' t = some (.tup ((sigS d n).map V.int)) → Q (.ref t) H'
theorem okLawSigns (T : Txt K mg fa fd) : FnOk P w K mg base CX0 2 (fa 28) (fd 28) ["d", "n"] (spLawSigns K) := by
  refine T.F__law_signs.ok scLawSigns (fun vs H Q E h => ?_) (fun cdv A outer s H vs Q E hr h => ?_)
  · obtain ⟨d, n, rfl, d0, hd, kk⟩ := h
    rfl
  · obtain ⟨d, n, rfl, d0, hd, kk⟩ := h
    refine ⟨_, (pss_cons (ps_set (i := 2) scLawSigns.nd rfl (Or.inl rfl) (pe_lst pa_nil))
      (pss_cons (ps_for PassesOwn.never rfl (pi_range2 (by rfl) T.m_range (pa_cons pe_int (pa_cons (pe_op op_add (pe_callB (absQ K) (by rfl) T.m_abs (by decide +kernel) (pa_cons (pv 0) pa_nil)) pe_int) pa_nil))) (pg_name (i := 3) scLawSigns.nd rfl (Or.inr rfl))
      (pss_one (ps_if (PW.pt (pw_and (pt_cmp (pc_eqI (pe_op op_mod (pv 0) (pv 3)) pe_int)) (pw_and1 (pt_cmp (pc_eqI (pe_callB (lenQ K) (by rfl) T.m_len (by decide +kernel) (pa_cons (pe_lc (own := [("q", 7)]) (g := gName 7)  rfl scLawSigns.nd (pi_range2 (by rfl) T.m_range (pa_cons pe_int (pa_cons (pe_op op_add (pe_call (sp := spLawRoot K) (okLawRoot T) hr (by rfl) T.G__law_root T.F__law_root.kp T.B__law_root .nil pass0 (pa_cons (pv 3) pa_nil)) pe_int) pa_nil))) (blkOk_by (own := [("q", 7)]) (N := ["d", "n", "found", "p", "fourth", "eighth", "rows", "q", "x"]) (sc := defScope sLawSigns) (by decide +kernel)) (fun _ _ _ _ _ => (pg_name (i := 7) scLawSigns.nd rfl (Or.inl rfl))) (fun _ _ _ _ _ => (pts_one (pt_cmp (pc_eqI (pe_op op_mod (pv 3) (pv 7)) pe_int)))) (fun _ _ _ _ _ => (pv 7))) pa_nil)) pe_int)))))
        (pss_one (ps_expr (pe_bm PySem.F.plainAttrs_list PySem.F.slot_list_append PySem.F.type_list_append mt_append (pv 2) (pa_cons (pe_ix (ixL K) (pe_lst (pa_cons (pe_un un_neg pe_int) (pa_cons pe_int pa_nil))) (pe_callTy (intQ K) (by rfl) T.m_int (by decide +kernel) (pa_cons (pe_cmpR (inSQ K) (pe_op op_mod (pv 1) (pv 3)) (pe_lc (own := [("x", 8)]) (g := gName 8) (tt := tYes) rfl scLawSigns.nd (pi_range1 (by rfl) T.m_range (pa_cons (pv 3) pa_nil)) (blkOk_by (own := [("x", 8)]) (N := ["d", "n", "found", "p", "fourth", "eighth", "rows", "q", "x"]) (sc := defScope sLawSigns) (by decide +kernel)) (fun _ _ _ _ _ => (pg_name (i := 8) scLawSigns.nd rfl (Or.inl rfl))) (fun _ _ _ _ _ => pts_nil) (fun _ _ _ _ _ => (pe_op op_mod (pe_op op_mulW (pv 8) (pv 8)) (pv 3)))) (by with_unfolding_all rfl)) pa_nil)) (fun _ _ => rfl)) pa_nil))))
        pss_nil)))
      (C8.pss_cut (ps_set (i := 4) scLawSigns.nd rfl (Or.inl rfl) (pe_ix (ixL K) (pe_lst (pa_cons (pe_un un_neg pe_int) (pa_cons pe_int pa_nil))) (pe_callTy (intQ K) (by rfl) T.m_int (by decide +kernel) (pa_cons (pe_cmp (pc_eqI (pe_op op_mod (pv 1) pe_int) pe_int)) pa_nil)) (fun _ _ => rfl)))
      (C8.pss_cut (ps_set (i := 5) scLawSigns.nd rfl (Or.inl rfl) (pe_ix (ixL K) (pe_lst (pa_cons (pe_un un_neg pe_int) (pa_cons pe_int pa_nil))) (pe_callTy (intQ K) (by rfl) T.m_int (by decide +kernel) (pa_cons (pe_cmpR (inSQ K) (pe_op op_mod (pv 1) pe_int) (pe_lst (pa_cons pe_int (pa_cons pe_int pa_nil))) (by with_unfolding_all rfl)) pa_nil)) (fun _ _ => rfl)))
      (C8.pss_cut (ps_if (pt_cmp (pc_eqI (pe_op op_mod (pv 0) pe_int) pe_int))
      (pss_cons (ps_set (i := 6) scLawSigns.nd rfl (Or.inl rfl) (pe_lst (pa_cons (pe_lst (pa_cons (pv 4) (pa_cons (pv 5) pa_nil))) (pa_cons (pe_lst pa_nil) (pa_cons (pe_lst (pa_cons (pv 5) pa_nil)) (pa_cons (pe_lst (pa_cons (pv 4) pa_nil)) (pa_cons (pe_lst (pa_cons (pv 4) pa_nil)) (pa_cons (pe_lst pa_nil) (pa_cons (pe_lst (pa_cons (pe_op op_mulW (pv 4) (pv 5)) pa_nil)) (pa_cons (pe_lst (pa_cons (pv 4) pa_nil)) pa_nil))))))))))
        (pss_one (ps_set (i := 2) scLawSigns.nd rfl (Or.inl rfl) (pe_op op_cat (pv 2) (pe_ix (ixL K) (pv 6) (pe_op op_mod (pe_op op_fdiv (pv 0) pe_int) pe_int) (fun _ _ => rfl))))))
      pss_nil)
      (pss_one (ps_ret (pe_callTy (tupQ K) (by rfl) T.m_tuple (by decide +kernel) (pa_cons (pv 2) pa_nil))))))))), ?_⟩
    have bd : Bd 60 d := Bd.om (by omega)
    clean_wf
    have hl := ht
    have nD := nn
    have s1 := sn
    clear sn ht nn
    generalize tn = tF at *
    generalize HN = H1 at *
    refine R.forN (lo := 3) (n := ((d.natAbs : Int) + 1 - 3).toNat) (fun i σ H' => ∃ (x3 x7 x8 : Option V), σ = [some (.int d), some (.int n), some (.ref tF), x3, none, none, none, x7, x8] ∧ Same H H' ∧ H' tF = some (.lst ((((rgI 3 i).filter (lawT d)).map (chiS n)).map V.int)))
      ⟨_, _, _, rfl, s1, hl⟩ (fun i σ H' hi hPv => ?_) (fun σ H' hPv => ?_)
    · obtain ⟨x3, x7, x8, rfl, sm, hl⟩ := hPv
      have hll : (((rgI 3 i).filter (lawT d)).map (chiS n)).length ≤ 1000 := by
        rw [List.length_map]
        have := List.length_filter_le (lawT d) (rgI 3 i)
        rw [rgI_len] at this
        omega
      rw [rgI_succ, List.filter_append]
      have p3 : 3 ≤ 3 + (i : Int) := by omega
      have p4 : 3 + (i : Int) ≤ 200 := by omega
      generalize 3 + (i : Int) = p at *
      have bp : Bd 60 p := Bd.om (by omega)
      obtain ⟨r0, r1⟩ := uLawRoot0 (n := p) (by omega)
      clean_wf
      by_cases z : d % p = 0
      · rw [decide_eq_true z]
        clean_wf
        refine R.lcFR (fun q => decide (p % q = 0)) (fun q => q) (by omega) (fun j H2 C E hj s2 cy cn => ?_) (fun H2 D hD s2 nD2 => ?_)
        · have q0 : 0 < 2 + (j : Int) := by omega
          generalize 2 + (j : Int) = y at *
          clean_wf
          refine ⟨rfl, ?_⟩
          clean_wf
          by_cases w : p % y = 0
          · rw [decide_eq_true w]
            clean_wf
            exact cy (decide_eq_true w)
          · rw [decide_eq_false w]
            clean_wf
            exact cn (decide_eq_false w)
        clean_wf
        refine R.lenL (SqL.of hD) ?_
        clean_wf
        have e9 := len_zero ((rgI 2 (rootI p + 1 - 2).toNat).filter (fun q => decide (p % q = 0)))
        rw [e9]
        have hlw : lawT d p = trial p := by
          unfold lawT
          rw [decide_eq_true z, Bool.true_and]
        have e10 : decide (((rgI 2 (rootI p + 1 - 2).toNat).filter (fun q => decide (p % q = 0))).length = 0) = trial p := rfl
        rw [e10]
        have hl2 := s2 _ _ hl
        have sm2 := sm.trans s2
        clear e9 e10 hD nD2 s2 hl
        by_cases w : trial p = true
        · rw [List.filter_cons_of_pos (by rw [hlw]; exact w), List.filter_nil, List.map_append, List.map_append]
          rw [if_pos w]
          clean_wf
          refine R.lcFR (fun _ => true) (fun x => x * x % p) (by omega) (fun j H4 C E hj s4 cy cn => ?_) (fun H4 D4 hD4 s4 nD4 => ?_)
          · have bj : Bd 60 (0 + (j : Int)) := Bd.om (by omega)
            generalize 0 + (j : Int) = y at *
            clean_wf
            refine ⟨rfl, ?_⟩
            refine R.yes ?_
            clean_wf
            exact cy rfl
          rw [List.filter_eq_self.mpr (fun _ _ => rfl)] at hD4
          clean_wf
          refine R.inI (ns := sqs p) (.inl (SqL.of hD4)) ?_
          by_cases u : n % p ∈ sqs p
          · rw [decide_eq_true u]
            have hc : chiS n p = 1 := by
              unfold chiS
              rw [if_pos u]
            clean_wf
            refine R.app (s4 _ _ (sn _ _ hl2)) (by rw [List.length_map]; omega) (fun H5 e5 h5 => ?_)
            refine ⟨_, _, _, rfl, ?_, ?_⟩
            · rw [e5]
              exact same_mut ((sm2.trans sn).trans s4) nD
            · rw [h5, show (List.map (chiS n) [p]) = [chiS n p] from rfl, hc]
              rfl
          · rw [decide_eq_false u]
            have hc : chiS n p = -1 := by
              unfold chiS
              rw [if_neg u]
            clean_wf
            refine R.app (s4 _ _ (sn _ _ hl2)) (by rw [List.length_map]; omega) (fun H5 e5 h5 => ?_)
            refine ⟨_, _, _, rfl, ?_, ?_⟩
            · rw [e5]
              exact same_mut ((sm2.trans sn).trans s4) nD
            · rw [h5, show (List.map (chiS n) [p]) = [chiS n p] from rfl, hc]
              rfl
        · rw [List.filter_cons_of_neg (by rw [hlw]; exact w), List.filter_nil, List.append_nil]
          rw [if_neg w]
          clean_wf
          exact ⟨_, _, _, rfl, sm2, hl2⟩
      · rw [decide_eq_false z]
        have ht : lawT d p = false := by
          unfold lawT
          rw [decide_eq_false z, Bool.false_and]
        rw [List.filter_cons_of_neg (by rw [ht]; decide), List.filter_nil, List.append_nil]
        clean_wf
        exact ⟨_, _, _, rfl, sm, hl⟩
    · obtain ⟨x3, x7, x8, rfl, sm, hl⟩ := hPv
      have hll : (((rgI 3 ((d.natAbs : Int) + 1 - 3).toNat).filter (lawT d)).map (chiS n)).length ≤ 1000 := by
        rw [List.length_map]
        have := List.length_filter_le (lawT d) (rgI 3 ((d.natAbs : Int) + 1 - 3).toNat)
        rw [rgI_len] at this
        omega
      change H' tF = some (.lst (((lawP d).map (chiS n)).map V.int)) at hl
      change ((lawP d).map (chiS n)).length ≤ 1000 at hll
      have hf : fo n = if n % 4 = 1 then 1 else -1 := rfl
      have he : ei n = if n % 8 = 1 ∨ n % 8 = 7 then 1 else -1 := rfl
      have bf : Bd 8 (fo n) := by
        rw [hf]
        split <;> (unfold Bd; decide)
      have be : Bd 8 (ei n) := by
        rw [he]
        split <;> (unfold Bd; decide)
      have m2 : n % 8 ∈ ([1, 7] : List Int) ↔ n % 8 = 1 ∨ n % 8 = 7 := by simp
      refine R.cut (Mid := fun σ H2 => σ = [some (.int d), some (.int n), some (.ref tF), x3, some (.int (fo n)), none, none, x7, x8] ∧ Same H' H2) ?_ (fun σ H2 hM => ?_)
      · skip
        clean_wf
        by_cases z : n % 4 = 1
        · rw [decide_eq_true z]
          rw [if_pos z] at hf
          clean_wf
          rw [hf]
          exact ⟨rfl, sn⟩
        · rw [decide_eq_false z]
          rw [if_neg z] at hf
          clean_wf
          rw [hf]
          exact ⟨rfl, sn⟩
      obtain ⟨rfl, s2⟩ := hM
      refine R.cut (Mid := fun σ H3 => σ = [some (.int d), some (.int n), some (.ref tF), x3, some (.int (fo n)), some (.int (ei n)), none, x7, x8] ∧ Same H2 H3) ?_ (fun σ H3 hM => ?_)
      · skip
        clean_wf
        refine R.inI (ns := [1, 7]) (.inl (SqL.of ht)) ?_
        by_cases z : n % 8 = 1 ∨ n % 8 = 7
        · rw [decide_eq_true (m2.mpr z)]
          rw [if_pos z] at he
          clean_wf
          rw [he]
          refine ⟨rfl, ?_⟩
          array_mem_dec
        · rw [decide_eq_false (fun h => z (m2.mp h))]
          rw [if_neg z] at he
          clean_wf
          rw [he]
          refine ⟨rfl, ?_⟩
          array_mem_dec
      obtain ⟨rfl, s3⟩ := hM
      have hl3 := s3 _ _ (s2 _ _ hl)
      have sm3 := (sm.trans s2).trans s3
      clear hf he hl s2 s3 sm
      refine R.cut (Mid := fun σ H4 => ∃ (tG : Addr) (x6 : Option V), σ = [some (.int d), some (.int n), some (.ref tG), x3, some (.int (fo n)), some (.int (ei n)), x6, x7, x8] ∧ Same H H4 ∧ H4 tG = some (.lst ((sigS d n).map V.int))) ?_ (fun σ H4 hM => ?_)
      · skip
        clean_wf
        refine way2 (fun z => ?_) (fun z => ?_)
        · skip
          clean_wf
          have r0 := Int.emod_nonneg (d / 4) (show (8 : Int) ≠ 0 by decide)
          have r1 := Int.emod_lt_of_pos (d / 4) (show (0 : Int) < 8 by decide)
          obtain hk | hk | hk | hk | hk | hk | hk | hk : d / 4 % 8 = 0 ∨ d / 4 % 8 = 1 ∨ d / 4 % 8 = 2 ∨ d / 4 % 8 = 3 ∨ d / 4 % 8 = 4 ∨ d / 4 % 8 = 5 ∨ d / 4 % 8 = 6 ∨ d / 4 % 8 = 7 := by omega
          · rw [hk]
            refine R.ixL (SqL.of ht) rfl ?_
            clean_wf
            · exact Nat.ble_eq_true_of_le (Nat.le_trans (Nat.add_le_add (by rw [List.length_map]; exact hll) (show List.length _ ≤ 2 by simp)) (by decide : 1000 + 2 ≤ 100000))
            refine ⟨_, _, rfl, ?_, ?_⟩
            · array_mem_dec
            · rw [ht]
              unfold sigS
              rw [if_pos z, hk, (sg2_v n).1, List.map_append]
              rfl
          · rw [hk]
            refine R.ixL (SqL.of ht) rfl ?_
            clean_wf
            · exact Nat.ble_eq_true_of_le (Nat.le_trans (Nat.add_le_add (by rw [List.length_map]; exact hll) (show List.length _ ≤ 2 by simp)) (by decide : 1000 + 2 ≤ 100000))
            refine ⟨_, _, rfl, ?_, ?_⟩
            · array_mem_dec
            · rw [ht]
              unfold sigS
              rw [if_pos z, hk, (sg2_v n).2.1, List.map_append]
              rfl
          · rw [hk]
            refine R.ixL (SqL.of ht) rfl ?_
            clean_wf
            · exact Nat.ble_eq_true_of_le (Nat.le_trans (Nat.add_le_add (by rw [List.length_map]; exact hll) (show List.length _ ≤ 2 by simp)) (by decide : 1000 + 2 ≤ 100000))
            refine ⟨_, _, rfl, ?_, ?_⟩
            · array_mem_dec
            · rw [ht]
              unfold sigS
              rw [if_pos z, hk, (sg2_v n).2.2.1, List.map_append]
              rfl
          · rw [hk]
            refine R.ixL (SqL.of ht) rfl ?_
            clean_wf
            · exact Nat.ble_eq_true_of_le (Nat.le_trans (Nat.add_le_add (by rw [List.length_map]; exact hll) (show List.length _ ≤ 2 by simp)) (by decide : 1000 + 2 ≤ 100000))
            refine ⟨_, _, rfl, ?_, ?_⟩
            · array_mem_dec
            · rw [ht]
              unfold sigS
              rw [if_pos z, hk, (sg2_v n).2.2.2.1, List.map_append]
              rfl
          · rw [hk]
            refine R.ixL (SqL.of ht) rfl ?_
            clean_wf
            · exact Nat.ble_eq_true_of_le (Nat.le_trans (Nat.add_le_add (by rw [List.length_map]; exact hll) (show List.length _ ≤ 2 by simp)) (by decide : 1000 + 2 ≤ 100000))
            refine ⟨_, _, rfl, ?_, ?_⟩
            · array_mem_dec
            · rw [ht]
              unfold sigS
              rw [if_pos z, hk, (sg2_v n).2.2.2.2.1, List.map_append]
              rfl
          · rw [hk]
            refine R.ixL (SqL.of ht) rfl ?_
            clean_wf
            · exact Nat.ble_eq_true_of_le (Nat.le_trans (Nat.add_le_add (by rw [List.length_map]; exact hll) (show List.length _ ≤ 2 by simp)) (by decide : 1000 + 2 ≤ 100000))
            refine ⟨_, _, rfl, ?_, ?_⟩
            · array_mem_dec
            · rw [ht]
              unfold sigS
              rw [if_pos z, hk, (sg2_v n).2.2.2.2.2.1, List.map_append]
              rfl
          · rw [hk]
            refine R.ixL (SqL.of ht) rfl ?_
            clean_wf
            · exact Nat.ble_eq_true_of_le (Nat.le_trans (Nat.add_le_add (by rw [List.length_map]; exact hll) (show List.length _ ≤ 2 by simp)) (by decide : 1000 + 2 ≤ 100000))
            refine ⟨_, _, rfl, ?_, ?_⟩
            · array_mem_dec
            · rw [ht]
              unfold sigS
              rw [if_pos z, hk, (sg2_v n).2.2.2.2.2.2.1, List.map_append]
              rfl
          · rw [hk]
            refine R.ixL (SqL.of ht) rfl ?_
            clean_wf
            · exact Nat.ble_eq_true_of_le (Nat.le_trans (Nat.add_le_add (by rw [List.length_map]; exact hll) (show List.length _ ≤ 2 by simp)) (by decide : 1000 + 2 ≤ 100000))
            refine ⟨_, _, rfl, ?_, ?_⟩
            · array_mem_dec
            · rw [ht]
              unfold sigS
              rw [if_pos z, hk, (sg2_v n).2.2.2.2.2.2.2, List.map_append]
              rfl
        · skip
          clean_wf
          refine ⟨tF, _, rfl, sm3, ?_⟩
          unfold sigS
          rw [if_neg z, List.append_nil]
          exact hl3
      · obtain ⟨tG, x6, rfl, sm, hG⟩ := hM
        clean_wf
        refine kk _ _ ?_ ht
        array_mem_dec
def spLaw (K : PySem.W.Frag) : Sp := fun vs H Q _ => ∃ (a : Addr) (ns : List Int), vs = [.ref a] ∧ SqL K H a (ns.map V.int) ∧ ns.length ≤ 63 ∧ ∀ H', Q (.bl true) H'
theorem okLaw (T : Txt K mg fa fd) : FnOk P w K mg base CX0 7 (fa 29) (fd 29) ["script"] (spLaw K) := by
  refine T.F_law.ok scLaw (fun vs H Q E h => ?_) (fun cdv A outer s H vs Q E hr h => ?_)
  · obtain ⟨l, ns, rfl, hS, hlen, qq⟩ := h
    rfl
  · obtain ⟨l, ns, rfl, hS, hlen, qq⟩ := h
    refine ⟨_, (pss_cons (ps_set (i := 1) scLaw.nd rfl (Or.inl rfl) (pe_call (sp := spLawState K) (okLawState T) (hr.mono (by decide)) (by rfl) T.G__law_state T.F__law_state.kp T.B__law_state .nil pass0 (pa_cons (pv 0) pa_nil)))
      (pss_cons (ps_set (i := 2) scLaw.nd rfl (Or.inl rfl) (pe_call (sp := spLawPrimitive K) (okLawPrimitive T) (hr.mono (by decide)) (by rfl) T.G__law_primitive T.F__law_primitive.kp T.B__law_primitive .nil pass0 (pa_cons (pv 1) (pa_cons (pe_ix (ixL K) (pe_lst (pa_cons pe_str (pa_cons pe_str pa_nil))) (pe_call (sp := spLawNext K) (okLawNext T) (hr.mono (by decide)) (by rfl) T.G__law_next T.F__law_next.kp T.B__law_next .nil pass0 (pa_cons (pv 1) (pa_cons pe_int pa_nil))) (fun _ _ => rfl)) pa_nil))))
      (C8.pss_cut (ps_if (pt_cmp (pc_eqI (pe_call (sp := spLawNext K) (okLawNext T) (hr.mono (by decide)) (by rfl) T.G__law_next T.F__law_next.kp T.B__law_next .nil pass0 (pa_cons (pv 1) (pa_cons pe_int pa_nil))) pe_int))
      (pss_one (ps_set (i := 2) scLaw.nd rfl (Or.inl rfl) (pe_tup (pa_cons pe_int (pa_cons pe_int (pa_cons (pe_op op_mulW (pe_ix (ixL K) (pe_lst (pa_cons pe_int (pa_cons (pe_un un_neg pe_int) pa_nil))) (pe_callTy (intQ K) (by rfl) T.m_int (by decide +kernel) (pa_cons (pe_cmpR op_eq (pe_call (sp := spLawKind K) (okLawKind T) (hr.mono (by decide)) (by rfl) T.G__law_kind T.F__law_kind.kp T.B__law_kind .nil pass0 (pa_cons (pv 2) pa_nil)) pe_str (nomark _)) pa_nil)) (fun _ _ => rfl)) (pe_op op_add pe_int (pe_call (sp := spLawNext K) (okLawNext T) (hr.mono (by decide)) (by rfl) T.G__law_next T.F__law_next.kp T.B__law_next .nil pass0 (pa_cons (pv 1) (pa_cons pe_int pa_nil))))) pa_nil))))))
      pss_nil)
      (pss_cons (ps_if (pt_cmpR op_eq (pe_call (sp := spLawKind K) (okLawKind T) (hr.mono (by decide)) (by rfl) T.G__law_kind T.F__law_kind.kp T.B__law_kind .nil pass0 (pa_cons (pv 2) pa_nil)) pe_str (nomark _))
      (pss_one (ps_ret pe_bl))
      pss_nil)
      (pss_cons (ps_set (i := 2) scLaw.nd rfl (Or.inl rfl) (pe_call (sp := spLawAct K) (okLawAct T) (hr.mono (by decide)) (by rfl) T.G__law_act T.F__law_act.kp T.B__law_act .nil pass0 (pa_cons (pv 2) (pa_cons (pe_call (sp := spLawChange K) (okLawChange T) (hr.mono (by decide)) (by rfl) T.G__law_change T.F__law_change.kp T.B__law_change .nil pass0 (pa_cons (pv 1) (pa_cons pe_int pa_nil))) pa_nil))))
      (pss_cons (ps_set (i := 3) scLaw.nd rfl (Or.inl rfl) (pe_op op_sub (pe_op op_mulW (pe_ix (ixT K) (pv 2) pe_int (fun _ _ => rfl)) (pe_ix (ixT K) (pv 2) pe_int (fun _ _ => rfl))) (pe_op op_mulW (pe_op op_mulW pe_int (pe_ix (ixT K) (pv 2) pe_int (fun _ _ => rfl))) (pe_ix (ixT K) (pv 2) pe_int (fun _ _ => rfl)))))
      (pss_cons (ps_set (i := 4) scLaw.nd rfl (Or.inl rfl) (pe_call (sp := spGenus K) (okGenus T) hr (by rfl) T.G_genus T.F_genus.kp T.B_genus .nil pass0 (pa_cons (pv 2) pa_nil)))
      (pss_cons (ps_if (PW.pt (pw_or (pt_not (pt_val (pe_callB (isiQ K) (by rfl) T.m_isinstance (by decide +kernel) (pa_cons (pv 4) (pa_cons (pe_bltn (v := .ty "tuple") (by rfl) T.m_tuple (by decide +kernel) rfl) pa_nil))))) (pw_or1 (pt_cmpR (neDQ K hr.units) (pe_lc (own := [("sign", 7)]) (g := gName 7)  rfl scLaw.nd (piT K (pv 4)) (blkOk_by (own := [("sign", 7)]) (N := ["script", "state", "form", "d", "told", "k", "n", "sign"]) (sc := defScope sLaw) (by decide +kernel)) (fun _ _ _ _ _ => (pg_name (i := 7) scLaw.nd rfl (Or.inl rfl))) (fun _ _ _ _ _ => (pts_one (pt_val (pe_callB (isiQ K) (by rfl) T.m_isinstance (by decide +kernel) (pa_cons (pv 7) (pa_cons (pe_bltn (v := .ty "bool") (by rfl) T.m_bool (by decide +kernel) rfl) pa_nil)))))) (fun _ _ _ _ _ => (pv 7))) (pe_lst pa_nil) (nomark _)))))
      (pss_one (ps_ret pe_bl))
      pss_nil)
      (pss_cons (ps_for PassesOwn.never rfl (pi_range1 (by rfl) T.m_range (pa_cons pe_int pa_nil)) (pg_name (i := 5) scLaw.nd rfl (Or.inl rfl))
      (pss_cons (ps_set (i := 6) scLaw.nd rfl (Or.inl rfl) (pe_call (sp := spLawWorth K) (okLawWorth T) (hr.mono (by decide)) (by rfl) T.G__law_worth T.F__law_worth.kp T.B__law_worth .nil pass0 (pa_cons (pv 2) (pa_cons (pe_op op_sub (pe_call (sp := spLawNext K) (okLawNext T) (hr.mono (by decide)) (by rfl) T.G__law_next T.F__law_next.kp T.B__law_next .nil pass0 (pa_cons (pv 1) (pa_cons pe_int pa_nil))) pe_int) (pa_cons (pe_op op_sub (pe_call (sp := spLawNext K) (okLawNext T) (hr.mono (by decide)) (by rfl) T.G__law_next T.F__law_next.kp T.B__law_next .nil pass0 (pa_cons (pv 1) (pa_cons pe_int pa_nil))) pe_int) pa_nil)))))
        (pss_one (ps_if (PW.pt (pw_and (pt_cmp (pc_eqI (pe_call (sp := spLawMeasure K) (okLawMeasure T) (hr.mono (by decide)) (by rfl) T.G__law_measure T.F__law_measure.kp T.B__law_measure .nil pass0 (pa_cons (pv 6) (pa_cons (pe_op op_mulW pe_int (pv 3)) pa_nil))) pe_int)) (pw_and1 (pt_cmpR (neDQ K hr.units) (pe_call (sp := spLawSigns K) (okLawSigns T) (hr.mono (by decide)) (by rfl) T.G__law_signs T.F__law_signs.kp T.B__law_signs .nil pass0 (pa_cons (pv 3) (pa_cons (pv 6) pa_nil))) (pv 4) (nomark _)))))
        (pss_one (ps_ret pe_bl))
        pss_nil))))
      (pss_one (ps_ret pe_bl))))))))))), ?_⟩
    clean_wf
    refine ⟨l, ns, rfl, hS, fun H1 p q s1 d1 => ?_⟩
    clean_wf
    have np : tn ≠ p := fresh_ne nn (d1.same (by array_mem_dec))
    have lN := SqL.of (K := K) ht
    clear ht nn
    generalize tn = tN at *
    intro r1 H2 r1a r1b d2 k2
    have lN2 := k2.seqL np lN
    obtain ⟨ind, es⟩ : ∃ ind, atI [V.str "definite", V.str "indefinite"] r1 = some (.str (sortS ind)) := by
      obtain rfl | rfl : r1 = 0 ∨ r1 = 1 := by omega
      · exact ⟨false, rfl⟩
      · exact ⟨true, rfl⟩
    refine R.ixL lN2 es ?_
    clean_wf
    refine ⟨p, q, _, ind, rfl, d2, by decide, ?_⟩
    intro H3 tf a b c d3 k3 sF px
    have x1 := px.a1
    have x2 := px.b1
    have x3 := px.c1
    have x4 := px.one
    have x5 := px.d0
    have ds := dsc_size (n := 6) (by decide) (show (a.natAbs : Int) ≤ 6 by omega) (show (b.natAbs : Int) ≤ 6 by omega) (show (c.natAbs : Int) ≤ 6 by omega)
    clear lN lN2 k2 k3 d2 px
    clean_wf
    refine R.cut (Mid := fun σ H' => ∃ (tF : Addr) (a b c : Int) (N : Nat), σ = [some (.ref l), some (.ref p), some (.ref tF), none, none, none, none, none] ∧ SqT K H' tF [.int a, .int b, .int c] ∧ a.natAbs ≤ 41 ∧ b.natAbs ≤ 41 ∧ c.natAbs ≤ 41 ∧ gI (gI a b) c = 1 ∧ dsc a b c ≠ 0 ∧ -200 ≤ dsc a b c ∧ dsc a b c < 200 ∧ Dw H' p q N ∧ N ≤ 1000) ?_ (fun σ H' hM => ?_)
    · skip
      clean_wf
      intro r2 H4 r2a r2b d4 k4
      have sF4 := kp_seqT k4 d3 sF
      clean_wf
      refine way2 (fun z => ?_) (fun z => ?_)
      · skip
        clean_wf
        intro H5 s5
        clean_wf
        have fin : ∀ {v r3 : Int} {H6 : Hp} {t : Addr} {σ : L2.St} {N : Nat}, (v = 1 ∨ v = -1) → 0 ≤ r3 → r3 < 40 → σ = [some (.ref l), some (.ref p), some (.ref t), none, none, none, none, none] → H6 t = some (.tup [.int 1, .int 0, .int (v * (2 + r3))]) → Dw H6 p q N → N ≤ 1000 →
            ∃ (tF : Addr) (a b c : Int) (N : Nat), σ = [some (.ref l), some (.ref p), some (.ref tF), none, none, none, none, none] ∧ SqT K H6 tF [.int a, .int b, .int c] ∧ a.natAbs ≤ 41 ∧ b.natAbs ≤ 41 ∧ c.natAbs ≤ 41 ∧ gI (gI a b) c = 1 ∧ dsc a b c ≠ 0 ∧ -200 ≤ dsc a b c ∧ dsc a b c < 200 ∧ Dw H6 p q N ∧ N ≤ 1000 := by
          intro v r3 H6 t σ N hv h0 h1 hσ ht dw hN
          have e : dsc 1 0 (v * (2 + r3)) = -4 * (v * (2 + r3)) := by
            unfold dsc
            grind
          have hc : (v * (2 + r3)).natAbs ≤ 41 ∧ v * (2 + r3) ≠ 0 := by
            rcases hv with rfl | rfl
            · omega
            · omega
          refine ⟨t, 1, 0, v * (2 + r3), N, hσ, SqT.of ht, by decide, by decide, hc.1, ?_, by omega, by omega, by omega, dw, hN⟩
          show ((Nat.gcd (Nat.gcd 1 0) (v * (2 + r3)).natAbs : Nat) : Int) = 1
          rw [show Nat.gcd 1 0 = 1 from rfl, Nat.gcd_one_left]
          rfl
        by_cases w : V.str (kindS (dsc a b c)) = V.str "indefinite"
        · rw [decide_eq_true w]
          clean_wf
          intro r3 H6 r3a r3b d6 k6
          clean_wf
          exact fin (.inr rfl) r3a r3b rfl ht (d6.same sn) (by decide)
        · rw [decide_eq_false w]
          clean_wf
          intro r3 H6 r3a r3b d6 k6
          clean_wf
          exact fin (.inl rfl) r3a r3b rfl ht (d6.same sn) (by decide)
      · skip
        clean_wf
        exact ⟨_, a, b, c, _, rfl, sF4, by omega, by omega, by omega, x4, x5, by omega, by omega, d4, by decide⟩
    · clear x1 x2 x3 x4 x5 ds sF d3
      obtain ⟨tF, a, b, c, N, rfl, sF, x1, x2, x3, x4, x5, x6, x7, d3, hN⟩ := hM
      clean_wf
      intro H4 s4
      clean_wf
      refine way2 (fun z => ?_) (fun z => ?_)
      · skip
        clean_wf
        exact qq _
      have sF4 := same_seqT s4 sF
      have d4 := d3.same s4
      have ba : Bd 60 a := Bd.om (by omega)
      have bb : Bd 60 b := Bd.om (by omega)
      have bc : Bd 60 c := Bd.om (by omega)
      clean_wf
      intro H5 tm m1 m2 m3 m4 d5 k5 s5 l5
      have sF5 := kp_seqT k5 d4 sF4
      have l5 := l5.mono (show Int.toNat 3 ≤ 3 by decide)
      obtain ⟨g1, g2, g3, g4⟩ := l5.bd (by decide)
      have sz := act_size (a := a) (b := b) (c := c) (C := 41) (M := 27) x1 x2 x3 l5.2.1 l5.2.2.1 l5.2.2.2.1 l5.2.2.2.2
      have hdd : dsc (fA a b c m1 m3) (fB a b c m1 m2 m3 m4) (fA a b c m2 m4) = dsc a b c := by rw [dsc_act, l5.1, Int.mul_one, Int.mul_one]
      have hpr : ∀ pn : Nat, EP pn → ¬ ((pn : Int) ∣ fA a b c m1 m3 ∧ (pn : Int) ∣ fB a b c m1 m2 m3 m4 ∧ (pn : Int) ∣ fA a b c m2 m4) := fun pn e => prim_act x4 e l5.1
      clean_wf
      have e9 : (2 * a * m1 * m2 + b * (m1 * m4 + m2 * m3) + 2 * c * m3 * m4) * (2 * a * m1 * m2 + b * (m1 * m4 + m2 * m3) + 2 * c * m3 * m4) - 4 * (a * m1 * m1 + b * m1 * m3 + c * m3 * m3) * (a * m2 * m2 + b * m2 * m4 + c * m4 * m4) = dsc a b c := hdd
      rw [e9]
      have sF6 : SqT K HN tn [.int (fA a b c m1 m3), .int (fB a b c m1 m2 m3 m4), .int (fA a b c m2 m4)] := SqT.of ht
      have d6 := d5.same sn
      clear e9 ht s5 l5 sF5 sF4 sF d3 d4 d5 k5 g1 g2 g3 g4 sn
      generalize fA a b c m1 m3 = A at *
      generalize fB a b c m1 m2 m3 m4 = B at *
      generalize fA a b c m2 m4 = C at *
      generalize tn = tG at *
      generalize HN = H6 at *
      generalize dsc a b c = d at *
      obtain ⟨z1, z2, z3⟩ := sz
      obtain ⟨l1, l2, G⟩ := go_of (go_at x6 x7 x5) x5 (by omega)
      have bA : Bd 60 A := Bd.om (by omega)
      have bB : Bd 60 B := Bd.om (by omega)
      have bC : Bd 60 C := Bd.om (by omega)
      refine ⟨tG, A, B, C, l1, l2, rfl, sF6, by rw [hdd]; exact G, bA, bB, bC, ?_⟩
      intro H7 tt s7 htt
      rw [hdd] at htt
      have hep : ∀ pn ∈ l2.map (·.1), EP pn := fun pn hp => by
        obtain ⟨w, hw, rfl⟩ := List.mem_map.mp hp
        exact (G.e2 w hw).1
      have hn : ∀ pn : Nat, pn ∈ l2.map (·.1) → ¬ (pn : Int) ∣ fA A B C (ptF A C (l2.map (·.1))).1 (ptF A C (l2.map (·.1))).2 := fun pn hp => pt_apart hep hp (hpr pn (hep pn hp))
      have hsig : ∀ x y : Int, gI (fA A B C x y) (2 * d) = 1 → sigS d (fA A B C x y) = sigL d (fA A B C (ptF A C (l2.map (·.1))).1 (ptF A C (l2.map (·.1))).2) l1 := fun x y g => sig_same G res_at hdd hn g
      have hlen : (sigL d (fA A B C (ptF A C (l2.map (·.1))).1 (ptF A C (l2.map (·.1))).2) l1).length ≤ 62 := by
        unfold sigL
        have h1 := oddL_len l1
        have h2 := G.len
        rw [List.length_append, List.length_map]
        have h3 : (if d % 2 = 0 then sg2 (d / 4 % 8) (fA A B C (ptF A C (l2.map (·.1))).1 (ptF A C (l2.map (·.1))).2) else []).length ≤ 2 := by
          split
          · exact sg2_len _ _
          · exact Nat.zero_le 2
        omega
      generalize sigL d (fA A B C (ptF A C (l2.map (·.1))).1 (ptF A C (l2.map (·.1))).2) l1 = L0 at *
      have st7 := SqT.of (K := K) htt
      have sF7 := same_seqT s7 sF6
      have d7 := d6.same s7
      have hd200 := G.hd
      have x5' := G.d0
      clear hn hep htt s7 sF6 d6 G hpr z1 z2 z3
      clean_wf
      refine R.refs (S := SqT K _) (xs := L0.map V.int) st7 ?_
      refine R.lcFT (fun _ => false) (fun x => x) (by omega) st7 (fun n H' C' E' hn sm cy cn => ?_) (fun H8 D hD s8 nD => ?_)
      · skip
        clean_wf
        refine ⟨rfl, ?_⟩
        clean_wf
        refine isiF ?_
        clean_wf
        exact cn rfl
      · rw [List.filter_eq_nil_iff.mpr (fun _ _ => by decide)] at hD
        clean_wf
        refine R.neInts (ns := []) (ms := []) (SqL.of (sn _ _ hD)) (SqL.of ht) ?_
        rw [decide_eq_true rfl]
        have st8 := same_seqT (s8.trans sn) st7
        have sF8 := same_seqT (s8.trans sn) sF7
        have d8 := d7.same (s8.trans sn)
        clear st7 sF7 d7 hD ht nD nn
        clean_wf
        refine R.forN (lo := 0) (n := Int.toNat 60) (fun i σ H' => ∃ (x5 x6 x7 : Option V), σ = [some (.ref l), some (.ref p), some (.ref tG), some (.int d), some (.ref tt), x5, x6, x7] ∧ SqT K H' tt (L0.map V.int) ∧ SqT K H' tG [.int A, .int B, .int C] ∧ Dw H' p q (2000 + 2 * i))
          ⟨_, _, _, rfl, st8, sF8, d8.mono (by omega)⟩ (fun i σ H' hi hPv => ?_) (fun σ H' hPv => ?_)
        · obtain ⟨x5, x6, x7, rfl, st, sF, dw⟩ := hPv
          replace hi : i < 60 := hi
          clean_wf
          intro r4 H9 r4a r4b d9 k9
          have st9 := kp_seqT k9 dw st
          have sF9 := kp_seqT k9 dw sF
          clean_wf
          intro r5 H10 r5a r5b d10 k10
          have st10 := kp_seqT k10 d9 st9
          have sF10 := kp_seqT k10 d9 sF9
          have bx : Bd 10 (r4 - 7) := Bd.of (m := 20) (by omega) (by decide)
          have by' : Bd 10 (r5 - 7) := Bd.of (m := 20) (by omega) (by decide)
          have bd : Bd 60 d := Bd.om (by omega)
          have en : A * (r4 - 7) * (r4 - 7) + B * (r4 - 7) * (r5 - 7) + C * (r5 - 7) * (r5 - 7) = fA A B C (r4 - 7) (r5 - 7) := rfl
          have hs9 := hsig (r4 - 7) (r5 - 7)
          have hd9 := d10.mono (show 2000 + 2 * i + 1 + 1 ≤ 2000 + 2 * (i + 1) by omega)
          clean_wf
          rw [en]
          by_cases z : gI (fA A B C (r4 - 7) (r5 - 7)) (2 * d) = 1
          · rw [decide_eq_true z]
            have hs9 := hs9 z
            generalize fA A B C (r4 - 7) (r5 - 7) = n at *
            clean_wf
            refine ⟨d, n, rfl, x5', hd200, ?_⟩
            intro H11 t11 s11 ht11
            clean_wf
            refine R.neTup (SqT.of ht11) (same_seqT s11 st10) ?_
            rw [decide_eq_true hs9]
            clean_wf
            exact ⟨_, _, _, rfl, same_seqT s11 st10, same_seqT s11 sF10, hd9.same s11⟩
          · rw [decide_eq_false z]
            clean_wf
            exact ⟨_, _, _, rfl, st10, sF10, hd9⟩
        · obtain ⟨x5, x6, x7, rfl, st, sF, dw⟩ := hPv
          clean_wf
          exact qq _
end
theorem all_mk {l : PySem.W.OpenLaw} {w : World} {K : PySem.W.Frag} {h : Heap} {mg : Str → Option Value} {f : Addr} (X : K.In h) (G : h.Ns mainGlobals mg) (hfa : mg "law" = some (.ref f))
    {f0 f1 f2 f3 f4 f5 f6 f7 f8 f9 f10 f11 f12 f13 f14 f15 f16 f17 f18 f19 f20 f21 f22 f23 f24 f25 f26 f27 f28 f29 : Addr}
    {od0 an0 od1 an1 od2 an2 od3 an3 od4 an4 od5 an5 od6 an6 od7 an7 od8 an8 od9 an9 od10 an10 od11 an11 od12 an12 od13 an13 od14 an14 od15 an15 od16 an16 od17 an17 od18 an18 od19 an19 od20 an20 od21 an21 od22 an22 od23 an23 od24 an24 od25 an25 od26 an26 od27 an27 od28 an28 od29 an29 : Option Addr} {sl0 sl1 sl2 sl3 sl4 sl5 sl6 sl7 sl8 sl9 sl10 sl11 sl12 sl13 sl14 sl15 sl16 sl17 sl18 sl19 sl20 sl21 sl22 sl23 sl24 sl25 sl26 sl27 sl28 sl29 : Array (Option Value)}
    {oc0 kV0 dc0 pm0 cd0 ct0 oc1 kV1 dc1 pm1 cd1 ct1 oc2 kV2 dc2 pm2 cd2 ct2 oc3 kV3 dc3 pm3 cd3 ct3 oc4 kV4 dc4 pm4 cd4 ct4 oc5 kV5 dc5 pm5 cd5 ct5 oc6 kV6 dc6 pm6 cd6 ct6 oc7 kV7 dc7 pm7 cd7 ct7 oc8 kV8 dc8 pm8 cd8 ct8 oc9 kV9 dc9 pm9 cd9 ct9 oc10 kV10 dc10 pm10 cd10 ct10 oc11 kV11 dc11 pm11 cd11 ct11 oc12 kV12 dc12 pm12 cd12 ct12 oc13 kV13 dc13 pm13 cd13 ct13 oc14 kV14 dc14 pm14 cd14 ct14 oc15 kV15 dc15 pm15 cd15 ct15 oc16 kV16 dc16 pm16 cd16 ct16 oc17 kV17 dc17 pm17 cd17 ct17 oc18 kV18 dc18 pm18 cd18 ct18 oc19 kV19 dc19 pm19 cd19 ct19 oc20 kV20 dc20 pm20 cd20 ct20 oc21 kV21 dc21 pm21 cd21 ct21 oc22 kV22 dc22 pm22 cd22 ct22 oc23 kV23 dc23 pm23 cd23 ct23 oc24 kV24 dc24 pm24 cd24 ct24 oc25 kV25 dc25 pm25 cd25 ct25 oc26 kV26 dc26 pm26 cd26 ct26 oc27 kV27 dc27 pm27 cd27 ct27 oc28 kV28 dc28 pm28 cd28 ct28 oc29 kV29 dc29 pm29 cd29 ct29 : Value}
    (a0 : PySem.W.nsIn K mainGlobals "power_modulo" = some (some (.ref f0))) (l0 : K.lookup f0 = some ⟨oc0, od0, .func (PySem.W.fnOf "power_modulo" "power_modulo" (defArgs sPowerModulo) (defBody sPowerModulo) (defScope sPowerModulo) .none kV0 dc0 pm0 an0 cd0 ct0), sl0⟩) (c0 : PySem.W.codeIn K cd0 "power_modulo" = true) (k0 : PySem.W.keepIn K (.ref f0) = true)
    (a1 : PySem.W.nsIn K mainGlobals "taken_out" = some (some (.ref f1))) (l1 : K.lookup f1 = some ⟨oc1, od1, .func (PySem.W.fnOf "taken_out" "taken_out" (defArgs sTakenOut) (defBody sTakenOut) (defScope sTakenOut) .none kV1 dc1 pm1 an1 cd1 ct1), sl1⟩) (c1 : PySem.W.codeIn K cd1 "taken_out" = true) (k1 : PySem.W.keepIn K (.ref f1) = true)
    (a2 : PySem.W.nsIn K mainGlobals "is_prime" = some (some (.ref f2))) (l2 : K.lookup f2 = some ⟨oc2, od2, .func (PySem.W.fnOf "is_prime" "is_prime" (defArgs sIsPrime) (defBody sIsPrime) (defScope sIsPrime) .none kV2 dc2 pm2 an2 cd2 ct2), sl2⟩) (c2 : PySem.W.codeIn K cd2 "is_prime" = true) (k2 : PySem.W.keepIn K (.ref f2) = true)
    (a3 : PySem.W.nsIn K mainGlobals "_behaves_as_prime" = some (some (.ref f3))) (l3 : K.lookup f3 = some ⟨oc3, od3, .func (PySem.W.fnOf "_behaves_as_prime" "_behaves_as_prime" (defArgs sBehavesAsPrime) (defBody sBehavesAsPrime) (defScope sBehavesAsPrime) .none kV3 dc3 pm3 an3 cd3 ct3), sl3⟩) (c3 : PySem.W.codeIn K cd3 "_behaves_as_prime" = true) (k3 : PySem.W.keepIn K (.ref f3) = true)
    (a4 : PySem.W.nsIn K mainGlobals "prime_parts" = some (some (.ref f4))) (l4 : K.lookup f4 = some ⟨oc4, od4, .func (PySem.W.fnOf "prime_parts" "prime_parts" (defArgs sPrimeParts) (defBody sPrimeParts) (defScope sPrimeParts) .none kV4 dc4 pm4 an4 cd4 ct4), sl4⟩) (c4 : PySem.W.codeIn K cd4 "prime_parts" = true) (k4 : PySem.W.keepIn K (.ref f4) = true)
    (a5 : PySem.W.nsIn K mainGlobals "_least_measure" = some (some (.ref f5))) (l5 : K.lookup f5 = some ⟨oc5, od5, .func (PySem.W.fnOf "_least_measure" "_least_measure" (defArgs sLeastMeasure) (defBody sLeastMeasure) (defScope sLeastMeasure) .none kV5 dc5 pm5 an5 cd5 ct5), sl5⟩) (c5 : PySem.W.codeIn K cd5 "_least_measure" = true) (k5 : PySem.W.keepIn K (.ref f5) = true)
    (a6 : PySem.W.nsIn K mainGlobals "discriminant" = some (some (.ref f6))) (l6 : K.lookup f6 = some ⟨oc6, od6, .func (PySem.W.fnOf "discriminant" "discriminant" (defArgs sDiscriminant) (defBody sDiscriminant) (defScope sDiscriminant) .none kV6 dc6 pm6 an6 cd6 ct6), sl6⟩) (c6 : PySem.W.codeIn K cd6 "discriminant" = true) (k6 : PySem.W.keepIn K (.ref f6) = true)
    (a7 : PySem.W.nsIn K mainGlobals "worth" = some (some (.ref f7))) (l7 : K.lookup f7 = some ⟨oc7, od7, .func (PySem.W.fnOf "worth" "worth" (defArgs sWorth) (defBody sWorth) (defScope sWorth) .none kV7 dc7 pm7 an7 cd7 ct7), sl7⟩) (c7 : PySem.W.codeIn K cd7 "worth" = true) (k7 : PySem.W.keepIn K (.ref f7) = true)
    (a8 : PySem.W.nsIn K mainGlobals "point_apart" = some (some (.ref f8))) (l8 : K.lookup f8 = some ⟨oc8, od8, .func (PySem.W.fnOf "point_apart" "point_apart" (defArgs sPointApart) (defBody sPointApart) (defScope sPointApart) .none kV8 dc8 pm8 an8 cd8 ct8), sl8⟩) (c8 : PySem.W.codeIn K cd8 "point_apart" = true) (k8 : PySem.W.keepIn K (.ref f8) = true)
    (a9 : PySem.W.nsIn K mainGlobals "is_residue" = some (some (.ref f9))) (l9 : K.lookup f9 = some ⟨oc9, od9, .func (PySem.W.fnOf "is_residue" "is_residue" (defArgs sIsResidue) (defBody sIsResidue) (defScope sIsResidue) .none kV9 dc9 pm9 an9 cd9 ct9), sl9⟩) (c9 : PySem.W.codeIn K cd9 "is_residue" = true) (k9 : PySem.W.keepIn K (.ref f9) = true)
    (a10 : PySem.W.nsIn K mainGlobals "genus" = some (some (.ref f10))) (l10 : K.lookup f10 = some ⟨oc10, od10, .func (PySem.W.fnOf "genus" "genus" (defArgs sGenus) (defBody sGenus) (defScope sGenus) .none kV10 dc10 pm10 an10 cd10 ct10), sl10⟩) (c10 : PySem.W.codeIn K cd10 "genus" = true) (k10 : PySem.W.keepIn K (.ref f10) = true)
    (a11 : PySem.W.nsIn K mainGlobals "_signs_at_2" = some (some (.ref f11))) (l11 : K.lookup f11 = some ⟨oc11, od11, .func (PySem.W.fnOf "_signs_at_2" "_signs_at_2" (defArgs sSignsAt2) (defBody sSignsAt2) (defScope sSignsAt2) .none kV11 dc11 pm11 an11 cd11 ct11), sl11⟩) (c11 : PySem.W.codeIn K cd11 "_signs_at_2" = true) (k11 : PySem.W.keepIn K (.ref f11) = true)
    (a12 : PySem.W.nsIn K mainGlobals "_law_cell" = some (some (.ref f12))) (l12 : K.lookup f12 = some ⟨oc12, od12, .func (PySem.W.fnOf "_law_cell" "_law_cell" (defArgs sLawCell) (defBody sLawCell) (defScope sLawCell) .none kV12 dc12 pm12 an12 cd12 ct12), sl12⟩) (c12 : PySem.W.codeIn K cd12 "_law_cell" = true) (k12 : PySem.W.keepIn K (.ref f12) = true)
    (a13 : PySem.W.nsIn K mainGlobals "_law_numbers" = some (some (.ref f13))) (l13 : K.lookup f13 = some ⟨oc13, od13, .func (PySem.W.fnOf "_law_numbers" "_law_numbers" (defArgs sLawNumbers) (defBody sLawNumbers) (defScope sLawNumbers) .none kV13 dc13 pm13 an13 cd13 ct13), sl13⟩) (c13 : PySem.W.codeIn K cd13 "_law_numbers" = true) (k13 : PySem.W.keepIn K (.ref f13) = true)
    (a14 : PySem.W.nsIn K mainGlobals "_law_state" = some (some (.ref f14))) (l14 : K.lookup f14 = some ⟨oc14, od14, .func (PySem.W.fnOf "_law_state" "_law_state" (defArgs sLawState) (defBody sLawState) (defScope sLawState) .none kV14 dc14 pm14 an14 cd14 ct14), sl14⟩) (c14 : PySem.W.codeIn K cd14 "_law_state" = true) (k14 : PySem.W.keepIn K (.ref f14) = true)
    (a15 : PySem.W.nsIn K mainGlobals "_law_next" = some (some (.ref f15))) (l15 : K.lookup f15 = some ⟨oc15, od15, .func (PySem.W.fnOf "_law_next" "_law_next" (defArgs sLawNext) (defBody sLawNext) (defScope sLawNext) .none kV15 dc15 pm15 an15 cd15 ct15), sl15⟩) (c15 : PySem.W.codeIn K cd15 "_law_next" = true) (k15 : PySem.W.keepIn K (.ref f15) = true)
    (a16 : PySem.W.nsIn K mainGlobals "_law_root" = some (some (.ref f16))) (l16 : K.lookup f16 = some ⟨oc16, od16, .func (PySem.W.fnOf "_law_root" "_law_root" (defArgs sLawRoot) (defBody sLawRoot) (defScope sLawRoot) .none kV16 dc16 pm16 an16 cd16 ct16), sl16⟩) (c16 : PySem.W.codeIn K cd16 "_law_root" = true) (k16 : PySem.W.keepIn K (.ref f16) = true)
    (a17 : PySem.W.nsIn K mainGlobals "_law_measure" = some (some (.ref f17))) (l17 : K.lookup f17 = some ⟨oc17, od17, .func (PySem.W.fnOf "_law_measure" "_law_measure" (defArgs sLawMeasure) (defBody sLawMeasure) (defScope sLawMeasure) .none kV17 dc17 pm17 an17 cd17 ct17), sl17⟩) (c17 : PySem.W.codeIn K cd17 "_law_measure" = true) (k17 : PySem.W.keepIn K (.ref f17) = true)
    (a18 : PySem.W.nsIn K mainGlobals "_law_mul" = some (some (.ref f18))) (l18 : K.lookup f18 = some ⟨oc18, od18, .func (PySem.W.fnOf "_law_mul" "_law_mul" (defArgs sLawMul) (defBody sLawMul) (defScope sLawMul) .none kV18 dc18 pm18 an18 cd18 ct18), sl18⟩) (c18 : PySem.W.codeIn K cd18 "_law_mul" = true) (k18 : PySem.W.keepIn K (.ref f18) = true)
    (a19 : PySem.W.nsIn K mainGlobals "_law_worth" = some (some (.ref f19))) (l19 : K.lookup f19 = some ⟨oc19, od19, .func (PySem.W.fnOf "_law_worth" "_law_worth" (defArgs sLawWorth) (defBody sLawWorth) (defScope sLawWorth) .none kV19 dc19 pm19 an19 cd19 ct19), sl19⟩) (c19 : PySem.W.codeIn K cd19 "_law_worth" = true) (k19 : PySem.W.keepIn K (.ref f19) = true)
    (a20 : PySem.W.nsIn K mainGlobals "_law_act" = some (some (.ref f20))) (l20 : K.lookup f20 = some ⟨oc20, od20, .func (PySem.W.fnOf "_law_act" "_law_act" (defArgs sLawAct) (defBody sLawAct) (defScope sLawAct) .none kV20 dc20 pm20 an20 cd20 ct20), sl20⟩) (c20 : PySem.W.codeIn K cd20 "_law_act" = true) (k20 : PySem.W.keepIn K (.ref f20) = true)
    (a21 : PySem.W.nsIn K mainGlobals "_law_change" = some (some (.ref f21))) (l21 : K.lookup f21 = some ⟨oc21, od21, .func (PySem.W.fnOf "_law_change" "_law_change" (defArgs sLawChange) (defBody sLawChange) (defScope sLawChange) .none kV21 dc21 pm21 an21 cd21 ct21), sl21⟩) (c21 : PySem.W.codeIn K cd21 "_law_change" = true) (k21 : PySem.W.keepIn K (.ref f21) = true)
    (a22 : PySem.W.nsIn K mainGlobals "_law_square" = some (some (.ref f22))) (l22 : K.lookup f22 = some ⟨oc22, od22, .func (PySem.W.fnOf "_law_square" "_law_square" (defArgs sLawSquare) (defBody sLawSquare) (defScope sLawSquare) .none kV22 dc22 pm22 an22 cd22 ct22), sl22⟩) (c22 : PySem.W.codeIn K cd22 "_law_square" = true) (k22 : PySem.W.keepIn K (.ref f22) = true)
    (a23 : PySem.W.nsIn K mainGlobals "_law_kind" = some (some (.ref f23))) (l23 : K.lookup f23 = some ⟨oc23, od23, .func (PySem.W.fnOf "_law_kind" "_law_kind" (defArgs sLawKind) (defBody sLawKind) (defScope sLawKind) .none kV23 dc23 pm23 an23 cd23 ct23), sl23⟩) (c23 : PySem.W.codeIn K cd23 "_law_kind" = true) (k23 : PySem.W.keepIn K (.ref f23) = true)
    (a24 : PySem.W.nsIn K mainGlobals "_law_split" = some (some (.ref f24))) (l24 : K.lookup f24 = some ⟨oc24, od24, .func (PySem.W.fnOf "_law_split" "_law_split" (defArgs sLawSplit) (defBody sLawSplit) (defScope sLawSplit) .none kV24 dc24 pm24 an24 cd24 ct24), sl24⟩) (c24 : PySem.W.codeIn K cd24 "_law_split" = true) (k24 : PySem.W.keepIn K (.ref f24) = true)
    (a25 : PySem.W.nsIn K mainGlobals "_law_flat" = some (some (.ref f25))) (l25 : K.lookup f25 = some ⟨oc25, od25, .func (PySem.W.fnOf "_law_flat" "_law_flat" (defArgs sLawFlat) (defBody sLawFlat) (defScope sLawFlat) .none kV25 dc25 pm25 an25 cd25 ct25), sl25⟩) (c25 : PySem.W.codeIn K cd25 "_law_flat" = true) (k25 : PySem.W.keepIn K (.ref f25) = true)
    (a26 : PySem.W.nsIn K mainGlobals "_law_form" = some (some (.ref f26))) (l26 : K.lookup f26 = some ⟨oc26, od26, .func (PySem.W.fnOf "_law_form" "_law_form" (defArgs sLawForm) (defBody sLawForm) (defScope sLawForm) .none kV26 dc26 pm26 an26 cd26 ct26), sl26⟩) (c26 : PySem.W.codeIn K cd26 "_law_form" = true) (k26 : PySem.W.keepIn K (.ref f26) = true)
    (a27 : PySem.W.nsIn K mainGlobals "_law_primitive" = some (some (.ref f27))) (l27 : K.lookup f27 = some ⟨oc27, od27, .func (PySem.W.fnOf "_law_primitive" "_law_primitive" (defArgs sLawPrimitive) (defBody sLawPrimitive) (defScope sLawPrimitive) .none kV27 dc27 pm27 an27 cd27 ct27), sl27⟩) (c27 : PySem.W.codeIn K cd27 "_law_primitive" = true) (k27 : PySem.W.keepIn K (.ref f27) = true)
    (a28 : PySem.W.nsIn K mainGlobals "_law_signs" = some (some (.ref f28))) (l28 : K.lookup f28 = some ⟨oc28, od28, .func (PySem.W.fnOf "_law_signs" "_law_signs" (defArgs sLawSigns) (defBody sLawSigns) (defScope sLawSigns) .none kV28 dc28 pm28 an28 cd28 ct28), sl28⟩) (c28 : PySem.W.codeIn K cd28 "_law_signs" = true) (k28 : PySem.W.keepIn K (.ref f28) = true)
    (a29 : PySem.W.nsIn K mainGlobals "law" = some (some (.ref f29))) (l29 : K.lookup f29 = some ⟨oc29, od29, .func (PySem.W.fnOf "law" "law" (defArgs sLaw) (defBody sLaw) (defScope sLaw) .none kV29 dc29 pm29 an29 cd29 ct29), sl29⟩) (c29 : PySem.W.codeIn K cd29 "law" = true) (k29 : PySem.W.keepIn K (.ref f29) = true)
    (z0 : PySem.W.nsIn K mainGlobals "abs" = some none)
    (z1 : PySem.W.nsIn K mainGlobals "bool" = some none)
    (z2 : PySem.W.nsIn K mainGlobals "int" = some none)
    (z3 : PySem.W.nsIn K mainGlobals "isinstance" = some none)
    (z4 : PySem.W.nsIn K mainGlobals "len" = some none)
    (z5 : PySem.W.nsIn K mainGlobals "max" = some none)
    (z6 : PySem.W.nsIn K mainGlobals "range" = some none)
    (z7 : PySem.W.nsIn K mainGlobals "tuple" = some none)
    {fw0 : Addr} {odw0 : Option Addr} {itw0 : Array Value} {nw0 : Nat} {slw0 : Array (Option Value)}
    (w0 : PySem.W.nsIn K mainGlobals "WITNESSES" = some (some (.ref fw0))) (x0 : K.lookup fw0 = some ⟨.type "tuple", odw0, .seq itw0 nw0, slw0⟩) (y0 : itw0.size ≤ sizeLine) (v0 : Vals [.int 2, .int 3, .int 5, .int 7, .int 11, .int 13, .int 17, .int 19, .int 23, .int 29, .int 31, .int 37] itw0.toList)
    : ∃ fd : FuncData, (∀ (s : Shared) (v : Value), BindsTo s fd ⟨[v], []⟩ [("script", v)]) ∧ ∀ base : Heap, K.In base → base.Ns mainGlobals mg → FnOk l.prog w K mg base CX0 7 f fd ["script"] (spLaw K) := by
  have e := hfa.symm.trans (PySem.W.mg_of X G a29)
  cases e
  have F0 := fun_mk (st := sPowerModulo) l0 c0 k0
  have F1 := fun_mk (st := sTakenOut) l1 c1 k1
  have F2 := fun_mk (st := sIsPrime) l2 c2 k2
  have F3 := fun_mk (st := sBehavesAsPrime) l3 c3 k3
  have F4 := fun_mk (st := sPrimeParts) l4 c4 k4
  have F5 := fun_mk (st := sLeastMeasure) l5 c5 k5
  have F6 := fun_mk (st := sDiscriminant) l6 c6 k6
  have F7 := fun_mk (st := sWorth) l7 c7 k7
  have F8 := fun_mk (st := sPointApart) l8 c8 k8
  have F9 := fun_mk (st := sIsResidue) l9 c9 k9
  have F10 := fun_mk (st := sGenus) l10 c10 k10
  have F11 := fun_mk (st := sSignsAt2) l11 c11 k11
  have F12 := fun_mk (st := sLawCell) l12 c12 k12
  have F13 := fun_mk (st := sLawNumbers) l13 c13 k13
  have F14 := fun_mk (st := sLawState) l14 c14 k14
  have F15 := fun_mk (st := sLawNext) l15 c15 k15
  have F16 := fun_mk (st := sLawRoot) l16 c16 k16
  have F17 := fun_mk (st := sLawMeasure) l17 c17 k17
  have F18 := fun_mk (st := sLawMul) l18 c18 k18
  have F19 := fun_mk (st := sLawWorth) l19 c19 k19
  have F20 := fun_mk (st := sLawAct) l20 c20 k20
  have F21 := fun_mk (st := sLawChange) l21 c21 k21
  have F22 := fun_mk (st := sLawSquare) l22 c22 k22
  have F23 := fun_mk (st := sLawKind) l23 c23 k23
  have F24 := fun_mk (st := sLawSplit) l24 c24 k24
  have F25 := fun_mk (st := sLawFlat) l25 c25 k25
  have F26 := fun_mk (st := sLawForm) l26 c26 k26
  have F27 := fun_mk (st := sLawPrimitive) l27 c27 k27
  have F28 := fun_mk (st := sLawSigns) l28 c28 k28
  have F29 := fun_mk (st := sLaw) l29 c29 k29
  have b0 := F0.binds (ps := ["base", "many", "modulus"]) fun _ _ _ _ _ _ us hl => match us, hl with | [_, _, _], _ => rfl
  have b1 := F1.binds (ps := ["n", "p"]) fun _ _ _ _ _ _ us hl => match us, hl with | [_, _], _ => rfl
  have b2 := F2.binds (ps := ["n"]) fun _ _ _ _ _ _ us hl => match us, hl with | [_], _ => rfl
  have b3 := F3.binds (ps := ["n", "base", "many", "odd"]) fun _ _ _ _ _ _ us hl => match us, hl with | [_, _, _, _], _ => rfl
  have b4 := F4.binds (ps := ["n"]) fun _ _ _ _ _ _ us hl => match us, hl with | [_], _ => rfl
  have b5 := F5.binds (ps := ["n", "start"]) fun _ _ _ _ _ _ us hl => match us, hl with | [_, _], _ => rfl
  have b6 := F6.binds (ps := ["form"]) fun _ _ _ _ _ _ us hl => match us, hl with | [_], _ => rfl
  have b7 := F7.binds (ps := ["form", "point"]) fun _ _ _ _ _ _ us hl => match us, hl with | [_, _], _ => rfl
  have b8 := F8.binds (ps := ["form", "number"]) fun _ _ _ _ _ _ us hl => match us, hl with | [_, _], _ => rfl
  have b9 := F9.binds (ps := ["d", "p"]) fun _ _ _ _ _ _ us hl => match us, hl with | [_, _], _ => rfl
  have b10 := F10.binds (ps := ["form"]) fun _ _ _ _ _ _ us hl => match us, hl with | [_], _ => rfl
  have b11 := F11.binds (ps := ["rest", "n"]) fun _ _ _ _ _ _ us hl => match us, hl with | [_, _], _ => rfl
  have b12 := F12.binds (ps := ["script", "k"]) fun _ _ _ _ _ _ us hl => match us, hl with | [_, _], _ => rfl
  have b13 := F13.binds (ps := ["cell", "many"]) fun _ _ _ _ _ _ us hl => match us, hl with | [_, _], _ => rfl
  have b14 := F14.binds (ps := ["script"]) fun _ _ _ _ _ _ us hl => match us, hl with | [_], _ => rfl
  have b15 := F15.binds (ps := ["state", "many"]) fun _ _ _ _ _ _ us hl => match us, hl with | [_, _], _ => rfl
  have b16 := F16.binds (ps := ["n"]) fun _ _ _ _ _ _ us hl => match us, hl with | [_], _ => rfl
  have b17 := F17.binds (ps := ["a", "b"]) fun _ _ _ _ _ _ us hl => match us, hl with | [_, _], _ => rfl
  have b18 := F18.binds (ps := ["m", "n"]) fun _ _ _ _ _ _ us hl => match us, hl with | [_, _], _ => rfl
  have b19 := F19.binds (ps := ["form", "x", "y"]) fun _ _ _ _ _ _ us hl => match us, hl with | [_, _, _], _ => rfl
  have b20 := F20.binds (ps := ["form", "m"]) fun _ _ _ _ _ _ us hl => match us, hl with | [_, _], _ => rfl
  have b21 := F21.binds (ps := ["state", "many"]) fun _ _ _ _ _ _ us hl => match us, hl with | [_, _], _ => rfl
  have b22 := F22.binds (ps := ["n"]) fun _ _ _ _ _ _ us hl => match us, hl with | [_], _ => rfl
  have b23 := F23.binds (ps := ["form"]) fun _ _ _ _ _ _ us hl => match us, hl with | [_], _ => rfl
  have b24 := F24.binds (ps := ["state"]) fun _ _ _ _ _ _ us hl => match us, hl with | [_], _ => rfl
  have b25 := F25.binds (ps := ["state"]) fun _ _ _ _ _ _ us hl => match us, hl with | [_], _ => rfl
  have b26 := F26.binds (ps := ["state", "sort"]) fun _ _ _ _ _ _ us hl => match us, hl with | [_, _], _ => rfl
  have b27 := F27.binds (ps := ["state", "name"]) fun _ _ _ _ _ _ us hl => match us, hl with | [_, _], _ => rfl
  have b28 := F28.binds (ps := ["d", "n"]) fun _ _ _ _ _ _ us hl => match us, hl with | [_, _], _ => rfl
  have b29 := F29.binds (ps := ["script"]) fun _ _ _ _ _ _ us hl => match us, hl with | [_], _ => rfl
  let fa : Nat → Addr := fun i => [f0, f1, f2, f3, f4, f5, f6, f7, f8, f9, f10, f11, f12, f13, f14, f15, f16, f17, f18, f19, f20, f21, f22, f23, f24, f25, f26, f27, f28, f, fw0].getD i 0
  let fd : Nat → FuncData := fun i => match i with
    | 0 => PySem.W.fnOf "power_modulo" "power_modulo" (defArgs sPowerModulo) (defBody sPowerModulo) (defScope sPowerModulo) .none kV0 dc0 pm0 an0 cd0 ct0
    | 1 => PySem.W.fnOf "taken_out" "taken_out" (defArgs sTakenOut) (defBody sTakenOut) (defScope sTakenOut) .none kV1 dc1 pm1 an1 cd1 ct1
    | 2 => PySem.W.fnOf "is_prime" "is_prime" (defArgs sIsPrime) (defBody sIsPrime) (defScope sIsPrime) .none kV2 dc2 pm2 an2 cd2 ct2
    | 3 => PySem.W.fnOf "_behaves_as_prime" "_behaves_as_prime" (defArgs sBehavesAsPrime) (defBody sBehavesAsPrime) (defScope sBehavesAsPrime) .none kV3 dc3 pm3 an3 cd3 ct3
    | 4 => PySem.W.fnOf "prime_parts" "prime_parts" (defArgs sPrimeParts) (defBody sPrimeParts) (defScope sPrimeParts) .none kV4 dc4 pm4 an4 cd4 ct4
    | 5 => PySem.W.fnOf "_least_measure" "_least_measure" (defArgs sLeastMeasure) (defBody sLeastMeasure) (defScope sLeastMeasure) .none kV5 dc5 pm5 an5 cd5 ct5
    | 6 => PySem.W.fnOf "discriminant" "discriminant" (defArgs sDiscriminant) (defBody sDiscriminant) (defScope sDiscriminant) .none kV6 dc6 pm6 an6 cd6 ct6
    | 7 => PySem.W.fnOf "worth" "worth" (defArgs sWorth) (defBody sWorth) (defScope sWorth) .none kV7 dc7 pm7 an7 cd7 ct7
    | 8 => PySem.W.fnOf "point_apart" "point_apart" (defArgs sPointApart) (defBody sPointApart) (defScope sPointApart) .none kV8 dc8 pm8 an8 cd8 ct8
    | 9 => PySem.W.fnOf "is_residue" "is_residue" (defArgs sIsResidue) (defBody sIsResidue) (defScope sIsResidue) .none kV9 dc9 pm9 an9 cd9 ct9
    | 10 => PySem.W.fnOf "genus" "genus" (defArgs sGenus) (defBody sGenus) (defScope sGenus) .none kV10 dc10 pm10 an10 cd10 ct10
    | 11 => PySem.W.fnOf "_signs_at_2" "_signs_at_2" (defArgs sSignsAt2) (defBody sSignsAt2) (defScope sSignsAt2) .none kV11 dc11 pm11 an11 cd11 ct11
    | 12 => PySem.W.fnOf "_law_cell" "_law_cell" (defArgs sLawCell) (defBody sLawCell) (defScope sLawCell) .none kV12 dc12 pm12 an12 cd12 ct12
    | 13 => PySem.W.fnOf "_law_numbers" "_law_numbers" (defArgs sLawNumbers) (defBody sLawNumbers) (defScope sLawNumbers) .none kV13 dc13 pm13 an13 cd13 ct13
    | 14 => PySem.W.fnOf "_law_state" "_law_state" (defArgs sLawState) (defBody sLawState) (defScope sLawState) .none kV14 dc14 pm14 an14 cd14 ct14
    | 15 => PySem.W.fnOf "_law_next" "_law_next" (defArgs sLawNext) (defBody sLawNext) (defScope sLawNext) .none kV15 dc15 pm15 an15 cd15 ct15
    | 16 => PySem.W.fnOf "_law_root" "_law_root" (defArgs sLawRoot) (defBody sLawRoot) (defScope sLawRoot) .none kV16 dc16 pm16 an16 cd16 ct16
    | 17 => PySem.W.fnOf "_law_measure" "_law_measure" (defArgs sLawMeasure) (defBody sLawMeasure) (defScope sLawMeasure) .none kV17 dc17 pm17 an17 cd17 ct17
    | 18 => PySem.W.fnOf "_law_mul" "_law_mul" (defArgs sLawMul) (defBody sLawMul) (defScope sLawMul) .none kV18 dc18 pm18 an18 cd18 ct18
    | 19 => PySem.W.fnOf "_law_worth" "_law_worth" (defArgs sLawWorth) (defBody sLawWorth) (defScope sLawWorth) .none kV19 dc19 pm19 an19 cd19 ct19
    | 20 => PySem.W.fnOf "_law_act" "_law_act" (defArgs sLawAct) (defBody sLawAct) (defScope sLawAct) .none kV20 dc20 pm20 an20 cd20 ct20
    | 21 => PySem.W.fnOf "_law_change" "_law_change" (defArgs sLawChange) (defBody sLawChange) (defScope sLawChange) .none kV21 dc21 pm21 an21 cd21 ct21
    | 22 => PySem.W.fnOf "_law_square" "_law_square" (defArgs sLawSquare) (defBody sLawSquare) (defScope sLawSquare) .none kV22 dc22 pm22 an22 cd22 ct22
    | 23 => PySem.W.fnOf "_law_kind" "_law_kind" (defArgs sLawKind) (defBody sLawKind) (defScope sLawKind) .none kV23 dc23 pm23 an23 cd23 ct23
    | 24 => PySem.W.fnOf "_law_split" "_law_split" (defArgs sLawSplit) (defBody sLawSplit) (defScope sLawSplit) .none kV24 dc24 pm24 an24 cd24 ct24
    | 25 => PySem.W.fnOf "_law_flat" "_law_flat" (defArgs sLawFlat) (defBody sLawFlat) (defScope sLawFlat) .none kV25 dc25 pm25 an25 cd25 ct25
    | 26 => PySem.W.fnOf "_law_form" "_law_form" (defArgs sLawForm) (defBody sLawForm) (defScope sLawForm) .none kV26 dc26 pm26 an26 cd26 ct26
    | 27 => PySem.W.fnOf "_law_primitive" "_law_primitive" (defArgs sLawPrimitive) (defBody sLawPrimitive) (defScope sLawPrimitive) .none kV27 dc27 pm27 an27 cd27 ct27
    | 28 => PySem.W.fnOf "_law_signs" "_law_signs" (defArgs sLawSigns) (defBody sLawSigns) (defScope sLawSigns) .none kV28 dc28 pm28 an28 cd28 ct28
    | _ => PySem.W.fnOf "law" "law" (defArgs sLaw) (defBody sLaw) (defScope sLaw) .none kV29 dc29 pm29 an29 cd29 ct29
  have T : Txt K mg fa fd := {
    F_power_modulo := F0, B_power_modulo := b0, G_power_modulo := PySem.W.mg_of X G a0,
    F_taken_out := F1, B_taken_out := b1, G_taken_out := PySem.W.mg_of X G a1,
    F_is_prime := F2, B_is_prime := b2, G_is_prime := PySem.W.mg_of X G a2,
    F__behaves_as_prime := F3, B__behaves_as_prime := b3, G__behaves_as_prime := PySem.W.mg_of X G a3,
    F_prime_parts := F4, B_prime_parts := b4, G_prime_parts := PySem.W.mg_of X G a4,
    F__least_measure := F5, B__least_measure := b5, G__least_measure := PySem.W.mg_of X G a5,
    F_discriminant := F6, B_discriminant := b6, G_discriminant := PySem.W.mg_of X G a6,
    F_worth := F7, B_worth := b7, G_worth := PySem.W.mg_of X G a7,
    F_point_apart := F8, B_point_apart := b8, G_point_apart := PySem.W.mg_of X G a8,
    F_is_residue := F9, B_is_residue := b9, G_is_residue := PySem.W.mg_of X G a9,
    F_genus := F10, B_genus := b10, G_genus := PySem.W.mg_of X G a10,
    F__signs_at_2 := F11, B__signs_at_2 := b11, G__signs_at_2 := PySem.W.mg_of X G a11,
    F__law_cell := F12, B__law_cell := b12, G__law_cell := PySem.W.mg_of X G a12,
    F__law_numbers := F13, B__law_numbers := b13, G__law_numbers := PySem.W.mg_of X G a13,
    F__law_state := F14, B__law_state := b14, G__law_state := PySem.W.mg_of X G a14,
    F__law_next := F15, B__law_next := b15, G__law_next := PySem.W.mg_of X G a15,
    F__law_root := F16, B__law_root := b16, G__law_root := PySem.W.mg_of X G a16,
    F__law_measure := F17, B__law_measure := b17, G__law_measure := PySem.W.mg_of X G a17,
    F__law_mul := F18, B__law_mul := b18, G__law_mul := PySem.W.mg_of X G a18,
    F__law_worth := F19, B__law_worth := b19, G__law_worth := PySem.W.mg_of X G a19,
    F__law_act := F20, B__law_act := b20, G__law_act := PySem.W.mg_of X G a20,
    F__law_change := F21, B__law_change := b21, G__law_change := PySem.W.mg_of X G a21,
    F__law_square := F22, B__law_square := b22, G__law_square := PySem.W.mg_of X G a22,
    F__law_kind := F23, B__law_kind := b23, G__law_kind := PySem.W.mg_of X G a23,
    F__law_split := F24, B__law_split := b24, G__law_split := PySem.W.mg_of X G a24,
    F__law_flat := F25, B__law_flat := b25, G__law_flat := PySem.W.mg_of X G a25,
    F__law_form := F26, B__law_form := b26, G__law_form := PySem.W.mg_of X G a26,
    F__law_primitive := F27, B__law_primitive := b27, G__law_primitive := PySem.W.mg_of X G a27,
    F__law_signs := F28, B__law_signs := b28, G__law_signs := PySem.W.mg_of X G a28,
    F_law := F29, B_law := b29, G_law := PySem.W.mg_of X G a29,
    m_abs := PySem.W.mg_none_of X G z0, m_bool := PySem.W.mg_none_of X G z1, m_int := PySem.W.mg_none_of X G z2, m_isinstance := PySem.W.mg_none_of X G z3, m_len := PySem.W.mg_none_of X G z4, m_max := PySem.W.mg_none_of X G z5, m_range := PySem.W.mg_none_of X G z6, m_tuple := PySem.W.mg_none_of X G z7, g_WITNESSES := PySem.W.mg_of X G w0, S_WITNESSES := fun H => .inr ⟨_, _, _, x0, rfl, rfl, y0, v0⟩ }
  exact ⟨fd 29, fun s v => .of_eq rfl, fun base _ _ => okLaw T⟩
end Wc
open PySem PySem.W PyProof.Rows
set_option maxHeartbeats 0 in
theorem PySem.Challenge.cw_wholeconic_k20_genera_holds : PySem.Challenge.rw_wholeconic_k20_genera.Holds := by
  w_on; o_law; k_head; (case hw => w_witness2)
  k_fill
  refine L2.walk_of (l := PySem.Challenge.rw_wholeconic_k20_genera) (n := 63) (k := 7) (x := "script") (CX := fun _ => L2.CX0) (sp := fun w => Wc.spLaw _) rfl (by decide) rfl ⟨rfl, by decide, by decide⟩ (fun w h Y => PySem.W.kIn_of Y) ?F (fun _ _ a ns hl _ hS => ⟨a, ns, rfl, hS, hl, fun _ => rfl⟩) (fun _ _ _ _ _ h => h)
  case F =>
    intro w mg fa h KX G hmg
    refine' Wc.all_mk KX G hmg ?a0 ?l0 ?c0 ?k0 ?a1 ?l1 ?c1 ?k1 ?a2 ?l2 ?c2 ?k2 ?a3 ?l3 ?c3 ?k3 ?a4 ?l4 ?c4 ?k4 ?a5 ?l5 ?c5 ?k5 ?a6 ?l6 ?c6 ?k6 ?a7 ?l7 ?c7 ?k7 ?a8 ?l8 ?c8 ?k8 ?a9 ?l9 ?c9 ?k9 ?a10 ?l10 ?c10 ?k10 ?a11 ?l11 ?c11 ?k11 ?a12 ?l12 ?c12 ?k12 ?a13 ?l13 ?c13 ?k13 ?a14 ?l14 ?c14 ?k14 ?a15 ?l15 ?c15 ?k15 ?a16 ?l16 ?c16 ?k16 ?a17 ?l17 ?c17 ?k17 ?a18 ?l18 ?c18 ?k18 ?a19 ?l19 ?c19 ?k19 ?a20 ?l20 ?c20 ?k20 ?a21 ?l21 ?c21 ?k21 ?a22 ?l22 ?c22 ?k22 ?a23 ?l23 ?c23 ?k23 ?a24 ?l24 ?c24 ?k24 ?a25 ?l25 ?c25 ?k25 ?a26 ?l26 ?c26 ?k26 ?a27 ?l27 ?c27 ?k27 ?a28 ?l28 ?c28 ?k28 ?a29 ?l29 ?c29 ?k29 ?z0 ?z1 ?z2 ?z3 ?z4 ?z5 ?z6 ?z7 ?w0 ?x0 ?y0 ?v0
    (case a0 => k_is); (case l0 => k_is); (case c0 => k_is); (case k0 => k_is); (case a1 => k_is); (case l1 => k_is); (case c1 => k_is); (case k1 => k_is); (case a2 => k_is); (case l2 => k_is); (case c2 => k_is); (case k2 => k_is); (case a3 => k_is); (case l3 => k_is); (case c3 => k_is); (case k3 => k_is); (case a4 => k_is); (case l4 => k_is); (case c4 => k_is); (case k4 => k_is); (case a5 => k_is); (case l5 => k_is); (case c5 => k_is); (case k5 => k_is); (case a6 => k_is); (case l6 => k_is); (case c6 => k_is); (case k6 => k_is); (case a7 => k_is); (case l7 => k_is); (case c7 => k_is); (case k7 => k_is); (case a8 => k_is); (case l8 => k_is); (case c8 => k_is); (case k8 => k_is); (case a9 => k_is); (case l9 => k_is); (case c9 => k_is); (case k9 => k_is); (case a10 => k_is); (case l10 => k_is); (case c10 => k_is); (case k10 => k_is); (case a11 => k_is); (case l11 => k_is); (case c11 => k_is); (case k11 => k_is); (case a12 => k_is); (case l12 => k_is); (case c12 => k_is); (case k12 => k_is); (case a13 => k_is); (case l13 => k_is); (case c13 => k_is); (case k13 => k_is); (case a14 => k_is); (case l14 => k_is); (case c14 => k_is); (case k14 => k_is); (case a15 => k_is); (case l15 => k_is); (case c15 => k_is); (case k15 => k_is); (case a16 => k_is); (case l16 => k_is); (case c16 => k_is); (case k16 => k_is); (case a17 => k_is); (case l17 => k_is); (case c17 => k_is); (case k17 => k_is); (case a18 => k_is); (case l18 => k_is); (case c18 => k_is); (case k18 => k_is); (case a19 => k_is); (case l19 => k_is); (case c19 => k_is); (case k19 => k_is); (case a20 => k_is); (case l20 => k_is); (case c20 => k_is); (case k20 => k_is); (case a21 => k_is); (case l21 => k_is); (case c21 => k_is); (case k21 => k_is); (case a22 => k_is); (case l22 => k_is); (case c22 => k_is); (case k22 => k_is); (case a23 => k_is); (case l23 => k_is); (case c23 => k_is); (case k23 => k_is); (case a24 => k_is); (case l24 => k_is); (case c24 => k_is); (case k24 => k_is); (case a25 => k_is); (case l25 => k_is); (case c25 => k_is); (case k25 => k_is); (case a26 => k_is); (case l26 => k_is); (case c26 => k_is); (case k26 => k_is); (case a27 => k_is); (case l27 => k_is); (case c27 => k_is); (case k27 => k_is); (case a28 => k_is); (case l28 => k_is); (case c28 => k_is); (case k28 => k_is); (case a29 => k_is); (case l29 => k_is); (case c29 => k_is); (case k29 => k_is); (case z0 => k_is); (case z1 => k_is); (case z2 => k_is); (case z3 => k_is); (case z4 => k_is); (case z5 => k_is); (case z6 => k_is); (case z7 => k_is); (case w0 => k_is); (case x0 => k_is); (case y0 => exact (by decide)); (case v0 => (repeat (first | exact .nil | refine .cons ⟨_, rfl⟩ ?_ | refine .cons rfl ?_)))
