import PyProof.Rows.All
import Wide.All
import OpenK.AllK
import Wide.FinOn
import HandS.ForMost
import HandS.Wide
import HandS.Gcd
import HandS.Style
import HandS.IsInst
import HandS.Codes
import PySem.Challenge.RW_wholeconic_k07_matrices
set_option Elab.async false
set_option linter.all false
set_option maxRecDepth 100000
set_option maxHeartbeats 4000000
namespace Wc
open PySem PySem.Spec PyProof.Rows L2
/-! ### the text -/
def topS (i : Nat) : Stmt := PySem.Challenge.pw_wholeconic_k07_matrices.main.body.getD i (.Pass ⟨0, 0, 0, 0⟩)
abbrev sMultiply : Stmt := topS 2
theorem scMultiply : FnScope ["m", "n", "p", "q", "r", "s", "p2", "q2", "r2", "s2"] ["m", "n"] (defScope sMultiply) := ⟨rfl, rfl, rfl, by decide +kernel, rfl, by decide +kernel, by decide +kernel⟩
abbrev sDeterminant : Stmt := topS 3
theorem scDeterminant : FnScope ["m", "p", "q", "r", "s"] ["m"] (defScope sDeterminant) := ⟨rfl, rfl, rfl, by decide +kernel, rfl, by decide +kernel, by decide +kernel⟩
abbrev sApply : Stmt := topS 4
theorem scApply : FnScope ["m", "point", "p", "q", "r", "s", "x", "y"] ["m", "point"] (defScope sApply) := ⟨rfl, rfl, rfl, by decide +kernel, rfl, by decide +kernel, by decide +kernel⟩
abbrev sNegative : Stmt := topS 5
theorem scNegative : FnScope ["m", "p", "q", "r", "s"] ["m"] (defScope sNegative) := ⟨rfl, rfl, rfl, by decide +kernel, rfl, by decide +kernel, by decide +kernel⟩
abbrev sInverse : Stmt := topS 6
theorem scInverse : FnScope ["m", "p", "q", "r", "s", "turned"] ["m"] (defScope sInverse) := ⟨rfl, rfl, rfl, by decide +kernel, rfl, by decide +kernel, by decide +kernel⟩
abbrev sRaised : Stmt := topS 7
theorem scRaised : FnScope ["m", "many", "p", "q", "r", "s", "trace", "times", "difference"] ["m", "many"] (defScope sRaised) := ⟨rfl, rfl, rfl, by decide +kernel, rfl, by decide +kernel, by decide +kernel⟩
abbrev sPowerParts : Stmt := topS 8
theorem scPowerParts : FnScope ["trace", "sign", "many", "half_trace", "half_times", "half_sign", "trace2", "times2"] ["trace", "sign", "many"] (defScope sPowerParts) := ⟨rfl, rfl, rfl, by decide +kernel, rfl, by decide +kernel, by decide +kernel⟩
abbrev sLawCell : Stmt := topS 10
theorem scLawCell : FnScope ["script", "k"] ["script", "k"] (defScope sLawCell) := ⟨rfl, rfl, rfl, by decide +kernel, rfl, by decide +kernel, by decide +kernel⟩
abbrev sLawNumbers : Stmt := topS 11
theorem scLawNumbers : FnScope ["cell", "many", "rest", "span", "numbers", "k", "mixed"] ["cell", "many"] (defScope sLawNumbers) := ⟨rfl, rfl, rfl, by decide +kernel, rfl, by decide +kernel, by decide +kernel⟩
abbrev sLawState : Stmt := topS 12
theorem scLawState : FnScope ["script", "numbers", "k"] ["script"] (defScope sLawState) := ⟨rfl, rfl, rfl, by decide +kernel, rfl, by decide +kernel, by decide +kernel⟩
abbrev sLawNext : Stmt := topS 13
theorem scLawNext : FnScope ["state", "many", "number"] ["state", "many"] (defScope sLawNext) := ⟨rfl, rfl, rfl, by decide +kernel, rfl, by decide +kernel, by decide +kernel⟩
abbrev sLawWide : Stmt := topS 14
theorem scLawWide : FnScope ["state", "many", "total", "k"] ["state", "many"] (defScope sLawWide) := ⟨rfl, rfl, rfl, by decide +kernel, rfl, by decide +kernel, by decide +kernel⟩
abbrev sLawMul : Stmt := topS 15
theorem scLawMul : FnScope ["m", "n", "top"] ["m", "n"] (defScope sLawMul) := ⟨rfl, rfl, rfl, by decide +kernel, rfl, by decide +kernel, by decide +kernel⟩
abbrev sLawAt : Stmt := topS 16
theorem scLawAt : FnScope ["m", "x", "y"] ["m", "x", "y"] (defScope sLawAt) := ⟨rfl, rfl, rfl, by decide +kernel, rfl, by decide +kernel, by decide +kernel⟩
abbrev sLawChange : Stmt := topS 19
theorem scLawChange : FnScope ["state", "many", "m", "k", "t"] ["state", "many"] (defScope sLawChange) := ⟨rfl, rfl, rfl, by decide +kernel, rfl, by decide +kernel, by decide +kernel⟩
abbrev sLaw : Stmt := topS 20
theorem scLaw : FnScope ["script", "state", "k", "m", "n", "x", "y", "step", "t", "many", "back", "power", "part"] ["script"] (defScope sLaw) := ⟨rfl, rfl, rfl, by decide +kernel, rfl, by decide +kernel, by decide +kernel⟩
structure Txt (K : PySem.W.Frag) (mg : Str → Option Value) (fa : Nat → Addr) (fd : Nat → FuncData) : Prop where
  F_multiply : Fun K "multiply" "multiply" sMultiply (fa 0) (fd 0)
  B_multiply : Binds K (fd 0) ["m", "n"] []
  G_multiply : mg "multiply" = some (.ref (fa 0))
  F_determinant : Fun K "determinant" "determinant" sDeterminant (fa 1) (fd 1)
  B_determinant : Binds K (fd 1) ["m"] []
  G_determinant : mg "determinant" = some (.ref (fa 1))
  F_apply : Fun K "apply" "apply" sApply (fa 2) (fd 2)
  B_apply : Binds K (fd 2) ["m", "point"] []
  G_apply : mg "apply" = some (.ref (fa 2))
  F_negative : Fun K "negative" "negative" sNegative (fa 3) (fd 3)
  B_negative : Binds K (fd 3) ["m"] []
  G_negative : mg "negative" = some (.ref (fa 3))
  F_inverse : Fun K "inverse" "inverse" sInverse (fa 4) (fd 4)
  B_inverse : Binds K (fd 4) ["m"] []
  G_inverse : mg "inverse" = some (.ref (fa 4))
  F_raised : Fun K "raised" "raised" sRaised (fa 5) (fd 5)
  B_raised : Binds K (fd 5) ["m", "many"] []
  G_raised : mg "raised" = some (.ref (fa 5))
  F__power_parts : Fun K "_power_parts" "_power_parts" sPowerParts (fa 6) (fd 6)
  B__power_parts : Binds K (fd 6) ["trace", "sign", "many"] []
  G__power_parts : mg "_power_parts" = some (.ref (fa 6))
  F__law_cell : Fun K "_law_cell" "_law_cell" sLawCell (fa 7) (fd 7)
  B__law_cell : Binds K (fd 7) ["script", "k"] []
  G__law_cell : mg "_law_cell" = some (.ref (fa 7))
  F__law_numbers : Fun K "_law_numbers" "_law_numbers" sLawNumbers (fa 8) (fd 8)
  B__law_numbers : Binds K (fd 8) ["cell", "many"] []
  G__law_numbers : mg "_law_numbers" = some (.ref (fa 8))
  F__law_state : Fun K "_law_state" "_law_state" sLawState (fa 9) (fd 9)
  B__law_state : Binds K (fd 9) ["script"] []
  G__law_state : mg "_law_state" = some (.ref (fa 9))
  F__law_next : Fun K "_law_next" "_law_next" sLawNext (fa 10) (fd 10)
  B__law_next : Binds K (fd 10) ["state", "many"] []
  G__law_next : mg "_law_next" = some (.ref (fa 10))
  F__law_wide : Fun K "_law_wide" "_law_wide" sLawWide (fa 11) (fd 11)
  B__law_wide : Binds K (fd 11) ["state", "many"] []
  G__law_wide : mg "_law_wide" = some (.ref (fa 11))
  F__law_mul : Fun K "_law_mul" "_law_mul" sLawMul (fa 12) (fd 12)
  B__law_mul : Binds K (fd 12) ["m", "n"] []
  G__law_mul : mg "_law_mul" = some (.ref (fa 12))
  F__law_at : Fun K "_law_at" "_law_at" sLawAt (fa 13) (fd 13)
  B__law_at : Binds K (fd 13) ["m", "x", "y"] []
  G__law_at : mg "_law_at" = some (.ref (fa 13))
  F__law_change : Fun K "_law_change" "_law_change" sLawChange (fa 14) (fd 14)
  B__law_change : Binds K (fd 14) ["state", "many"] []
  G__law_change : mg "_law_change" = some (.ref (fa 14))
  F_law : Fun K "law" "law" sLaw (fa 15) (fd 15)
  B_law : Binds K (fd 15) ["script"] []
  G_law : mg "law" = some (.ref (fa 15))
  g_UNIT : mg "UNIT" = some (.ref (fa 16))
  S_UNIT : ∀ H, SqT K H (fa 16) [.int 1, .int 0, .int 0, .int 1]
  m_abs : mg "abs" = none
  m_int : mg "int" = none
  m_len : mg "len" = none
  m_range : mg "range" = none
  m_tuple : mg "tuple" = none

/-! ### heaps, draws -/
theorem same_upd {H : Hp} {p : Addr} {o : HO} (h : H p = none) : Same H (upd H p o) := fun b x e => by
  rw [upd_ne (ne_of_none e h)]
  exact e
theorem same_mut {H0 H : Hp} {p : Addr} {o : HO} (s : Same H0 H) (h : H0 p = none) : Same H0 (upd H p o) := fun b x e => by
  rw [upd_ne (ne_of_none e h)]
  exact s _ _ e
theorem same_off {H H' : Hp} {p : Addr} {o : HO} {q : Addr} (f : ∀ b, b ≠ p → H' b = H b) (n : q ≠ p) (h : H q = some o) : H' q = some o := by
  rw [f q n]
  exact h
/-- the state of the draws: the list at p, its numbers at a, at most N draws so far -/
def Dw (H : Hp) (p a : Addr) (N : Nat) : Prop := ∃ (m : Nat) (ns : List Int), m ≤ N ∧ a ≠ p ∧ H p = some (.lst [.ref a, .int (m : Int)]) ∧ H a = some (.lst (ns.map V.int)) ∧ ns.length = 120 ∧ ∀ n ∈ ns, 0 ≤ n ∧ n < 1000
theorem Dw.same {H H' : Hp} {p a : Addr} {N : Nat} (s : Same H H') (d : Dw H p a N) : Dw H' p a N := by
  obtain ⟨m, ns, h1, h2, h3, h4, h5⟩ := d
  exact ⟨m, ns, h1, h2, s _ _ h3, s _ _ h4, h5⟩
theorem Dw.mono {H : Hp} {p a : Addr} {N M : Nat} (d : Dw H p a N) (h : N ≤ M) : Dw H p a M := by
  obtain ⟨m, ns, h1, h2⟩ := d
  exact ⟨m, ns, Nat.le_trans h1 h, h2⟩
theorem Dw.new {H : Hp} {p a q : Addr} {o : HO} {N : Nat} (d : Dw H p a N) (h : H q = none) : Dw (upd H q o) p a N := d.same (same_upd h)
theorem Dw.ne {H : Hp} {p a q : Addr} {N : Nat} (d : Dw H p a N) (h : H q = none) : q ≠ p ∧ q ≠ a := by
  obtain ⟨m, ns, h1, h2, h3, h4, h5⟩ := d
  exact ⟨(ne_of_none h3 h).symm, (ne_of_none h4 h).symm⟩
theorem Dw.mut {H : Hp} {p a q : Addr} {o : HO} {N : Nat} (d : Dw H p a N) (hp : q ≠ p) (ha : q ≠ a) : Dw (upd H q o) p a N := by
  obtain ⟨m, ns, h1, h2, h3, h4, h5⟩ := d
  exact ⟨m, ns, h1, h2, by rw [upd_ne hp.symm]; exact h3, by rw [upd_ne ha.symm]; exact h4, h5⟩
theorem at_mem {α : Type} {xs : List α} {r : Int} (h0 : 0 ≤ r) (h1 : r < xs.length) : ∃ v, v ∈ xs ∧ atI xs r = some v := by
  obtain ⟨j, rfl⟩ := Int.eq_ofNat_of_zero_le h0
  have hj : j < xs.length := by omega
  exact ⟨xs[j], List.getElem_mem hj, atI_nat (List.getElem?_eq_getElem hj)⟩
theorem at_int {ns : List Int} {r : Int} (h0 : 0 ≤ r) (h1 : r < ns.length) : ∃ n ∈ ns, atI (ns.map V.int) r = some (.int n) := by
  obtain ⟨v, hv, e⟩ := at_mem (xs := ns.map V.int) h0 (by rw [List.length_map]; exact h1)
  obtain ⟨n, hn, rfl⟩ := List.mem_map.mp hv
  exact ⟨n, hn, e⟩
theorem pow_ok {i j : Int} (h : 0 ≤ j ∧ j ≤ 1000000 ∧ i.natAbs < 2 ^ 64) : CPow i j := h
theorem wayF {c A B : Prop} [Decidable c] (h : ¬ c) (b : B) : if decide c = true then A else B := by
  rw [if_neg (fun z => h (of_decide_eq_true z))]
  exact b
theorem wayT {c A B : Prop} [Decidable c] (h : c) (a : A) : if decide c = true then A else B := by
  rw [if_pos (decide_eq_true h)]
  exact a
theorem wayNF {c A B : Prop} [Decidable c] (h : c) (b : B) : if (!decide c) = true then A else B := by
  rw [decide_eq_true h]
  exact iteF b
theorem wayNT {c A B : Prop} [Decidable c] (h : ¬ c) (a : A) : if (!decide c) = true then A else B := by
  rw [decide_eq_false h]
  exact iteT a
theorem way2 {c A B : Prop} [Decidable c] (h1 : c → A) (h2 : ¬ c → B) : if decide c = true then A else B := by
  by_cases h : c
  · exact wayT h (h1 h)
  · exact wayF h (h2 h)
theorem wayN2 {c A B : Prop} [Decidable c] (h1 : ¬ c → A) (h2 : c → B) : if (!decide c) = true then A else B := by
  by_cases h : c
  · exact wayNF h (h2 h)
  · exact wayNT h (h1 h)
theorem abs_int (i : Int) : (if i < 0 then -i else i) = (i.natAbs : Int) := by
  split <;> omega
theorem small200 {n : Nat} (h : n ≤ 1000) : n ≤ sizeLine := Nat.le_of_lt (small1000 h)
/-! ### data: == of lists and tuples -/
theorem dp_ints {K : PySem.W.Frag} {H : Hp} : ∀ ns : List Int, DpAll K H (ns.map V.int) (ns.map PyData.int)
  | [] => .nil
  | n :: ns => .cons (.int n) (dp_ints ns)
theorem lay_ints : ∀ ns : List Int, PyData.canLayAll0 (ns.map PyData.int) = true
  | [] => rfl
  | n :: ns => by
    rw [List.map_cons, PyData.canLayAll0, lay_ints ns]
    rfl
theorem depth_ints : ∀ ns : List Int, PyData.depthAll (ns.map PyData.int) = 0
  | [] => rfl
  | n :: ns => by
    rw [List.map_cons, PyData.depthAll, depth_ints ns]
    rfl
theorem shaped_ints (ns : List Int) : SeqAt.shaped (.list (ns.map PyData.int)) = true := by
  show (PyData.canLay0 (.list (ns.map PyData.int)) && decide (PyData.depth (.list (ns.map PyData.int)) ≤ 64)) = true
  rw [Bool.and_eq_true]
  refine ⟨by rw [PyData.canLay0]; exact lay_ints ns, decide_eq_true ?_⟩
  rw [PyData.depth, depth_ints]
  decide
theorem shaped_intsT (ns : List Int) : SeqAt.shaped (.tuple (ns.map PyData.int)) = true := by
  show (PyData.canLay0 (.tuple (ns.map PyData.int)) && decide (PyData.depth (.tuple (ns.map PyData.int)) ≤ 64)) = true
  rw [Bool.and_eq_true]
  refine ⟨by rw [PyData.canLay0]; exact lay_ints ns, decide_eq_true ?_⟩
  rw [PyData.depth, depth_ints]
  decide
theorem eqD_same {K : PySem.W.Frag} {H : Hp} {x y : V} {Q : VK} {d : PyData} (hx : Dp K H x d) (hy : Dp K H y d) (sh : SeqAt.shaped d = true) (q : Q (.bl true) H) : rEqD K x y H Q :=
  ⟨d, d, hx, hy, sh, sh, by rw [SeqAt.eqv_refl d (SeqAt.canLay_of_shaped sh)]; exact q⟩
theorem neD_same {K : PySem.W.Frag} {H : Hp} {x y : V} {Q : VK} {d : PyData} (hx : Dp K H x d) (hy : Dp K H y d) (sh : SeqAt.shaped d = true) (q : Q (.bl false) H) : rNeD K x y H Q :=
  ⟨d, d, hx, hy, sh, sh, by rw [SeqAt.eqv_refl d (SeqAt.canLay_of_shaped sh)]; exact q⟩
/-! ### slices -/
theorem cut_to (ns : List Int) (k : Nat) : cutV (ns.map V.int) none (some (k : Int)) = (ns.take k).map V.int := by
  unfold cutV
  rw [HT.sIx_none, HT.sIx_nat, List.drop_zero, List.map_take, Nat.sub_zero, List.length_map]
  by_cases h : k ≤ ns.length
  · rw [Nat.min_eq_left h]
  · rw [Nat.min_eq_right (by omega), List.take_of_length_le (by rw [List.length_map]; omega), List.take_of_length_le (by rw [List.length_map]; omega)]
theorem cut_from (xs : List V) (k : Nat) : cutV xs (some (k : Int)) none = xs.drop k := by
  unfold cutV
  rw [HT.sIx_none, HT.sIx_nat]
  by_cases h : k ≤ xs.length
  · rw [Nat.min_eq_left h, List.take_of_length_le (by rw [List.length_drop]; omega)]
  · rw [Nat.min_eq_right (by omega), List.drop_of_length_le (by omega), List.drop_of_length_le (by omega)]
    exact List.take_nil
theorem isiF {K : PySem.W.Frag} {H : Hp} {i : Int} {Q : VK} (q : Q (.bl false) H) : rIsi K [.int i, .ty "bool"] H Q := ⟨_, _, _, _, false, rfl, ClsV.ty _, TyX.base (.int i), kit_ty (by decide +kernel), q⟩
theorem isiT {K : PySem.W.Frag} {H : Hp} {b : Bool} {Q : VK} (q : Q (.bl true) H) : rIsi K [.bl b, .ty "bool"] H Q := ⟨_, _, _, _, true, rfl, ClsV.ty _, TyX.base (.bl b), kit_ty (by decide +kernel), q⟩
theorem isiTup {K : PySem.W.Frag} {H : Hp} {a : Addr} {xs : List V} {Q : VK} (h : H a = some (.tup xs)) (q : Q (.bl true) H) : rIsi K [.ref a, .ty "tuple"] H Q := ⟨_, _, _, _, true, rfl, ClsV.ty _, TyX.base (.tup h), kit_ty (by decide +kernel), q⟩
theorem isiLst {K : PySem.W.Frag} {H : Hp} {a : Addr} {xs : List V} {Q : VK} (h : H a = some (.lst xs)) (q : Q (.bl true) H) : rIsi K [.ref a, .ty "list"] H Q := ⟨_, _, _, _, true, rfl, ClsV.ty _, TyX.base (.lst h), kit_ty (by decide +kernel), q⟩
/-! ### rules with the written part named -/
section
variable {X : Cx}
def rLenQ (K : PySem.W.Frag) : List V → Hp → VK → Prop := fun xs H Q => ∃ p ys, xs = [.ref p] ∧ (SqL K H p ys ∨ SqT K H p ys) ∧ Q (.int ys.length) H
def rListQ (K : PySem.W.Frag) : List V → Hp → VK → Prop := fun xs H Q => ∃ p ys, xs = [.ref p] ∧ (SqL K H p ys ∨ SqT K H p ys) ∧ ∀ l, H l = none → Q (.ref l) (upd H l (.lst ys))
def rTupQ (K : PySem.W.Frag) : List V → Hp → VK → Prop := fun xs H Q => ∃ p ys, xs = [.ref p] ∧ ((SqL K H p ys ∧ ∀ l, H l = none → Q (.ref l) (upd H l (.tup ys))) ∨ (SqT K H p ys ∧ Q (.ref p) H))
theorem ixL (K : PySem.W.Frag) (h : X.K = K := by rfl) : IxR X (rIxL K) := by subst h; exact ix_list
theorem ixT (K : PySem.W.Frag) (h : X.K = K := by rfl) : IxR X (rIxT K) := by subst h; exact ix_tup
theorem slL (K : PySem.W.Frag) (h : X.K = K := by rfl) : SlR X (rSlL K) := by subst h; exact sl_list
theorem slT (K : PySem.W.Frag) (h : X.K = K := by rfl) : SlR X (rSlT K) := by subst h; exact sl_tup
theorem lenQ (K : PySem.W.Frag) (h : X.K = K := by rfl) : CallR X (.builtin "len") (rLenQ K) := by subst h; exact call_len_seq
theorem listQ (K : PySem.W.Frag) (h : X.K = K := by rfl) : CallR X (.type "list") (rListQ K) := by subst h; exact call_list_of
theorem tupQ (K : PySem.W.Frag) (h : X.K = K := by rfl) : CallR X (.type "tuple") (rTupQ K) := by subst h; exact call_tuple_of
theorem isiQ (K : PySem.W.Frag) (h : X.K = K := by rfl) : CallR X (.builtin "isinstance") (rIsi K) := by subst h; exact call_isi
theorem eqDQ (K : PySem.W.Frag) (hu : X.A.units + 64 < cLine) (h : X.K = K := by rfl) : OpR X (compareOp .Eq) (rEqD K) := by subst h; exact op_eqD hu
theorem neDQ (K : PySem.W.Frag) (hu : X.A.units + 64 < cLine) (h : X.K = K := by rfl) : OpR X (compareOp .NotEq) (rNeD K) := by subst h; exact op_neD hu
theorem piL (K : PySem.W.Frag) {tg l : Expr} {tl : TE} (hl : PE X l tl) (h : X.K = K := by rfl) : PI X tg l (iList K tl) := by subst h; exact pi_list hl
theorem piT (K : PySem.W.Frag) {tg l : Expr} {tl : TE} (hl : PE X l tl) (h : X.K = K := by rfl) : PI X tg l (iTup K tl) := by subst h; exact pi_tup hl
theorem inQ (K : PySem.W.Frag) (h : X.K = K := by rfl) : OpR X (compareOp .In) (rIn K false) := by subst h; exact op_in_seq
theorem notInQ (K : PySem.W.Frag) (h : X.K = K := by rfl) : OpR X (compareOp .NotIn) (rIn K true) := by subst h; exact op_notIn_seq
end
/-! ### great numbers -/
section
variable {X : Cx}
/-- // by any divisor below 2 ^ 9000 -/
def CDivX (_ j : Int) : Prop := j ≠ 0 ∧ j.natAbs < 2 ^ 9000
theorem op_fdivX : OpR X (binaryOp .FloorDiv) (rI CDivX fun i j => .int (i.fdiv j)) := opI fun i j _ _ _ _ _ hc q =>
  floordiv_int hc.1 q (.inl (PyProof.noPylong_of_log2 (PySem.Flt.log2_lt_of (by decide) hc.2)))
end
theorem pow_up {n a b : Nat} (h : n < 2 ^ a) (hab : a ≤ b) : n < 2 ^ b := Nat.lt_of_lt_of_le h (Nat.pow_le_pow_right (by decide) hab)

/-! ### bounds by powers of two -/
def Bd (n : Nat) (x : Int) : Prop := x.natAbs < 2 ^ n
theorem Bd.mono {n m : Nat} {x : Int} (h : Bd n x) (l : n ≤ m) : Bd m x := Nat.lt_of_lt_of_le h (Nat.pow_le_pow_right (by decide) l)
theorem Bd.mul {n m : Nat} {x y : Int} (h1 : Bd n x) (h2 : Bd m y) : Bd (n + m) (x * y) := wide_lt h1 h2
theorem Bd.add {n m : Nat} {x y : Int} (h1 : Bd n x) (h2 : Bd m y) : Bd (max n m + 1) (x + y) := by
  have a1 := h1.mono (Nat.le_max_left n m)
  have a2 := h2.mono (Nat.le_max_right n m)
  unfold Bd at *
  rw [Nat.pow_succ]
  omega
theorem Bd.neg {n : Nat} {x : Int} (h : Bd n x) : Bd n (-x) := by
  unfold Bd at *
  rw [Int.natAbs_neg]
  exact h
theorem Bd.sub {n m : Nat} {x y : Int} (h1 : Bd n x) (h2 : Bd m y) : Bd (max n m + 1) (x - y) := by
  have h := h1.add h2.neg
  rw [← Int.sub_eq_add_neg] at h
  exact h
theorem Bd.l8 {x : Int} (h : (x.natAbs < 2 ^ 8) = True) : Bd 8 x := of_eq_true h
theorem Bd.lit {x : Int} (h : (x.natAbs < 2 ^ 64) = True) : Bd 64 x := of_eq_true h
theorem Bd.om {x : Int} (h : x.natAbs < 1152921504606846976) : Bd 60 x := h
theorem Bd.div {n : Nat} {x y : Int} (h : Bd n x) : Bd n (x / y) := by
  unfold Bd at *
  exact Nat.lt_of_le_of_lt (Int.natAbs_ediv_le_natAbs x y) h
theorem bdm {n m : Nat} {x : Int} (h : Bd n x) (l : Nat.ble n m = true) : Bd m x := h.mono (Nat.le_of_ble_eq_true l)
theorem Bd.of {n : Nat} {x : Int} {m : Nat} (h : x.natAbs ≤ m) (l : m < 2 ^ n) : Bd n x := Nat.lt_of_le_of_lt h l
theorem Bd.mulW {n m : Nat} {x y : Int} (h1 : Bd n x) (h2 : Bd m y) (l : n + m ≤ 900000) : CMulW x y :=
  wide_mul (a := n + 1) (b := m + 1) (h1.mono (Nat.le_succ n)) (h2.mono (Nat.le_succ m)) (Nat.succ_pos n) (Nat.succ_pos m) (by omega)
theorem Bd.x4 {n m : Nat} {x y : Int} (h1 : Bd n x) (l : n ≤ m) (h : y = x) : Bd m y := h ▸ h1.mono l
/-! ### heaps -/
theorem same_seqT {K : PySem.W.Frag} {H H' : Hp} {a : Addr} {xs : List V} (e : Same H H') (h : SqT K H a xs) : SqT K H' a xs := by
  rcases h with (h | ⟨o, h⟩) | h
  · exact .inl (.inl (e _ _ h))
  · exact .inl (.inr ⟨o, e _ _ h⟩)
  · exact .inr h
/-- tuples stay -/
def KT (K : PySem.W.Frag) (H H' : Hp) : Prop := ∀ a xs, SqT K H a xs → SqT K H' a xs
/-- all but p stays -/
def Frm (p : Addr) (H H' : Hp) : Prop := ∀ b, b ≠ p → H' b = H b
/-- all that was tracked, but p, stays -/
def Kp (p : Addr) (H H' : Hp) : Prop := ∀ b o, b ≠ p → H b = some o → H' b = some o
theorem same_kt {K : PySem.W.Frag} {H H' : Hp} (e : Same H H') : KT K H H' := fun _ _ h => same_seqT e h
theorem same_kp {p : Addr} {H H' : Hp} (e : Same H H') : Kp p H H' := fun b o _ h => e b o h
theorem frm_kp {p : Addr} {H H' : Hp} (f : Frm p H H') : Kp p H H' := fun b o n h => (f b n).trans h
theorem Kp.refl {p : Addr} {H : Hp} : Kp p H H := fun b o _ h => h
theorem Kp.trans {p : Addr} {H H1 H2 : Hp} (a : Kp p H H1) (b : Kp p H1 H2) : Kp p H H2 := fun c o n h => b c o n (a c o n h)
theorem KT.trans {K : PySem.W.Frag} {H H1 H2 : Hp} (a : KT K H H1) (b : KT K H1 H2) : KT K H H2 := fun c xs h => b c xs (a c xs h)
theorem KT.refl {K : PySem.W.Frag} {H : Hp} : KT K H H := fun _ _ h => h
theorem kpB {p : Addr} {H H1 H' : Hp} (e : Kp p H1 H') (s : Kp p H H1) : Kp p H H' := s.trans e
theorem sameB {H H1 H' : Hp} (e : Same H1 H') (s : Same H H1) : Same H H' := s.trans e
theorem same_at {H H' : Hp} {a : Addr} {o : HO} (e : Same H H') (h : H a = some o) : H' a = some o := e _ _ h
theorem kp_at {p : Addr} {H H' : Hp} {a : Addr} {o : HO} (e : Kp p H H') (n : a ≠ p) (h : H a = some o) : H' a = some o := e _ _ n h
theorem KT.use {K : PySem.W.Frag} {H H' : Hp} {a : Addr} {xs : List V} (e : KT K H H') (h : SqT K H a xs) : SqT K H' a xs := e a xs h
theorem Kp.kt {K : PySem.W.Frag} {H H' : Hp} {p a : Addr} {N : Nat} (f : Kp p H H') (d : Dw H p a N) : KT K H H' := fun c xs h => by
  obtain ⟨m, ns, h1, h2, h3, h4⟩ := d
  rcases h with (h | ⟨o, h⟩) | h
  · refine .inl (.inl (f c _ ?_ h))
    rintro rfl
    rw [h3] at h
    cases h
  · refine .inl (.inr ⟨o, f c _ ?_ h⟩)
    rintro rfl
    rw [h3] at h
    cases h
  · exact .inr h
theorem kp_seqT {K : PySem.W.Frag} {H H' : Hp} {p a b : Addr} {N : Nat} {xs : List V} (f : Kp p H H') (d : Dw H p a N) (h : SqT K H b xs) : SqT K H' b xs := f.kt d b xs h
theorem Kp.seqL {K : PySem.W.Frag} {p : Addr} {H H' : Hp} {a : Addr} {xs : List V} (f : Kp p H H') (n : a ≠ p) (h : SqL K H a xs) : SqL K H' a xs := by
  rcases h with (h | ⟨o, h⟩) | h
  · exact .inl (.inl (f _ _ n h))
  · exact .inl (.inr ⟨o, f _ _ n h⟩)
  · exact .inr h
theorem Dw.kp0 {H : Hp} {p a q : Addr} {o : HO} (h : H q = none) : Kp p H (upd H q o) := same_kp (same_upd h)
theorem fresh_ne {H : Hp} {o p a : Addr} {N : Nat} (h : H o = none) (d : Dw H p a N) : o ≠ p := (d.ne h).1
section
variable {X : Cx}
theorem pgT (K : PySem.W.Frag) (n : Nat) {es : List Expr} {k : Nat} {pos : Pos} {t : TGs} (hc : X.calm = true) (h : PGs X es t) (hn : (assignEach es X.env).length = n := by rfl) (hst : (assignEach es X.env).findIdx? (·.1) = none := by rfl) (hK : X.K = K := by rfl) : PG X (.Tuple es k pos) (gTup K n t) := by
  subst hK
  exact pg_tup hc h hn hst
end
namespace R
section
variable {K : PySem.W.Frag} {σ : L2.St} {H : Hp} {Q : VK} {ta tb te : TE} {v x y : V} {i j : Int}
theorem var {n : Nat} (h : σ[n]? = some (some v)) (q : Q v H) : tVar n σ H Q := ⟨v, h, q⟩
theorem con (q : Q v H) : tC v σ H Q := q
theorem op {r : R2} (h : ta σ H fun x H1 => tb σ H1 fun y H2 => r x y H2 Q) : tOp r ta tb σ H Q := h
theorem un {r : V → Hp → VK → Prop} (h : ta σ H fun x H1 => r x H1 Q) : tUn r ta σ H Q := h
theorem i0 {g : Int → Int → V} (q : Q (g i j) H) : rI0 g (.int i) (.int j) H Q := ⟨i, j, rfl, rfl, q⟩
theorem i2 {C : Int → Int → Prop} {g : Int → Int → V} (c : C i j) (q : Q (g i j) H) : rI C g (.int i) (.int j) H Q := ⟨i, j, rfl, rfl, c, q⟩
theorem u1 {g : Int → V} (q : Q (g i) H) : rU g (.int i) H Q := ⟨i, rfl, q⟩
theorem ixT {p : Addr} {xs : List V} (h : SqT K H p xs) (e : atI xs i = some v) (q : Q v H) : rIxT K (.ref p) (.int i) H Q := ⟨p, xs, i, v, rfl, rfl, h, e, q⟩
theorem ixL {p : Addr} {xs : List V} (h : SqL K H p xs) (e : atI xs i = some v) (q : Q v H) : rIxL K (.ref p) (.int i) H Q := ⟨p, xs, i, v, rfl, rfl, h, e, q⟩
theorem nil {Q : List V → Hp → Prop} (q : Q [] H) : tNil σ H Q := q
theorem cons {tr : TA} {Q : List V → Hp → Prop} (h : ta σ H fun x H1 => tr σ H1 fun xs H2 => Q (x :: xs) H2) : tCons ta tr σ H Q := h
/-- what is wanted of a new tuple, a new list -/
def NwT (H : Hp) (xs : List V) (Q : VK) : Prop := xs.length ≤ sizeLine ∧ ∀ p, H p = none → Q (.ref p) (upd H p (.tup xs))
def NwL (H : Hp) (xs : List V) (Q : VK) : Prop := xs.length ≤ sizeLine ∧ ∀ p, H p = none → Q (.ref p) (upd H p (.lst xs))
def Nw (H : Hp) (xs : List V) (Q : VK) : Prop := ∀ H' t, Same H H' → H' t = some (.tup xs) → Q (.ref t) H'
theorem nw {xs : List V} (h : ∀ H' t, Same H H' → H' t = some (.tup xs) → Q (.ref t) H') : Nw H xs Q := h
def Mt (H : Hp) (xs : List V) (Q : VK) : Prop := ∀ H' p, Same H H' → H p = none → H' p = some (.tup xs) → Q (.ref p) H'
def Ml (H : Hp) (xs : List V) (Q : VK) : Prop := ∀ H' p, Same H H' → H p = none → H' p = some (.lst xs) → Q (.ref p) H'
theorem mt {xs : List V} (h : ∀ H' p, Same H H' → H p = none → H' p = some (.tup xs) → Q (.ref p) H') : Mt H xs Q := h
theorem ml {xs : List V} (h : ∀ H' p, Same H H' → H p = none → H' p = some (.lst xs) → Q (.ref p) H') : Ml H xs Q := h
theorem tup {t : TA} (h : t σ H fun xs H1 => NwT H1 xs Q) : tTup t σ H Q := h
theorem lst {t : TA} (h : t σ H fun xs H1 => NwL H1 xs Q) : tLst t σ H Q := h
theorem nwT {xs : List V} (l : Nat.ble xs.length 1000 = true) (q : Mt H xs Q) : NwT H xs Q :=
  ⟨Nat.le_of_lt (small1000 (Nat.le_of_ble_eq_true l)), fun p n => q _ p (same_upd n) n upd_same⟩
theorem nwL {xs : List V} (l : Nat.ble xs.length 1000 = true) (q : Ml H xs Q) : NwL H xs Q :=
  ⟨Nat.le_of_lt (small1000 (Nat.le_of_ble_eq_true l)), fun p n => q _ p (same_upd n) n upd_same⟩
theorem call {sp : Sp} {dvs : List V} {E : XK} {t : TA} (h : t σ H fun vs H1 => sp (vs ++ dvs) H1 Q E) : tCall sp dvs E t σ H Q := h
theorem callB {r : List V → Hp → VK → Prop} {t : TA} (h : t σ H fun vs H1 => r vs H1 Q) : tCB r t σ H Q := h
theorem gname {n : Nat} {Q : L2.St → Hp → Prop} (h : Q (σ.set n (some v)) H) : gName n v σ H Q := h
theorem gtup {n : Nat} {t : TGs} {a : Addr} {xs : List V} {Q : L2.St → Hp → Prop} (h1 : SqT K H a xs) (h2 : xs.length = n) (h : t xs σ H Q) : gTup K n t (.ref a) σ H Q := ⟨a, xs, rfl, h1, h2, h⟩
theorem gcons {t : TG} {u : TGs} {r : List V} {Q : L2.St → Hp → Prop} (h : t v σ H fun σ' H' => u r σ' H' Q) : gCons t u (v :: r) σ H Q := ⟨v, r, rfl, h⟩
theorem gnil {Q : L2.St → Hp → Prop} (h : Q σ H) : gNil [] σ H Q := ⟨rfl, h⟩
variable {nx : L2.St → Hp → Prop} {rt : VK} {bk ct : L2.St → Hp → Prop} {t u : TS} {c : TT}
theorem seq (h : t (Ends.mk (u (Ends.mk nx rt bk ct)) rt bk ct) σ H) : tSeq t u (Ends.mk nx rt bk ct) σ H := h
theorem asg {g : TG} (h : te σ H fun x H1 => g x σ H1 nx) : tAsg te g (Ends.mk nx rt bk ct) σ H := h
theorem ret (h : te σ H rt) : tRet te (Ends.mk nx rt bk ct) σ H := h
theorem next (h : nx σ H) : tNext (Ends.mk nx rt bk ct) σ H := h
theorem drop (h : te σ H fun _ H1 => nx σ H1) : tDrop te (Ends.mk nx rt bk ct) σ H := h
theorem par {i j : Nat} {ta : TA} (h : ta σ H fun vs H1 => ∃ v w, vs = [v, w] ∧ nx ((σ.set i (some v)).set j (some w)) H1) : tPar i j ta (Ends.mk nx rt bk ct) σ H := h
theorem par2 {P : V → V → Prop} (h : P x y) : ∃ v w, [x, y] = [v, w] ∧ P v w := ⟨x, y, rfl, h⟩
theorem ifs (h : c σ H fun b H1 => if b = true then t (Ends.mk nx rt bk ct) σ H1 else u (Ends.mk nx rt bk ct) σ H1) : tIfS c t u (Ends.mk nx rt bk ct) σ H := h
theorem tif (h : c σ H fun b H1 => if b = true then ta σ H1 Q else tb σ H1 Q) : tIf c ta tb σ H Q := h
theorem test {Q : Bool → Hp → Prop} (h : te σ H fun x H' => ∃ k, x = .bl k ∧ Q k H') : tTest te σ H Q := h
theorem tb' {Q : Bool → Hp → Prop} (h : te σ H fun x H' => ∃ k, x = .bl k ∧ Q k H') : tB te σ H Q := h
theorem isbl {b : Bool} {P : Bool → Prop} (h : P b) : ∃ k, V.bl b = .bl k ∧ P k := ⟨b, rfl, h⟩
theorem cmp {p : Int → Int → Bool} (h : t2I ta tb (fun i j H2 => Q (.bl (p i j)) H2) σ H) : tCmp p ta tb σ H Q := h
theorem t2i {k : Int → Int → Hp → Prop} (h : ta σ H fun x H1 => tb σ H1 fun y H2 => ∃ i j, x = .int i ∧ y = .int j ∧ k i j H2) : t2I ta tb k σ H := h
theorem intp {k : Int → Int → Prop} (h : k i j) : ∃ a b : Int, V.int i = .int a ∧ V.int j = .int b ∧ k a b := ⟨i, j, rfl, rfl, h⟩
theorem cut {Mid : L2.St → Hp → Prop} (h1 : t (Ends.mk Mid rt bk ct) σ H) (h2 : ∀ σ' H', Mid σ' H' → u (Ends.mk nx rt bk ct) σ' H') : C8.tCut t u (Ends.mk nx rt bk ct) σ H := ⟨Mid, h1, h2⟩
variable {d : TT}
theorem and {Q : Bool → Hp → Prop} (h : c σ H fun k H1 => if k = true then d σ H1 Q else Q false H1) : tAnd c d σ H Q := h
theorem or {Q : Bool → Hp → Prop} (h : c σ H fun k H1 => if k = true then Q true H1 else d σ H1 Q) : tOr c d σ H Q := h
theorem not {Q : Bool → Hp → Prop} (h : c σ H fun k H1 => Q (!k) H1) : tNot c σ H Q := h
theorem andV (h : ta σ H fun x H1 => ∃ c, x = .bl c ∧ if c = true then tb σ H1 Q else Q (.bl false) H1) : tAndV ta tb σ H Q := h
theorem orV (h : ta σ H fun x H1 => ∃ c, x = .bl c ∧ if c = true then Q (.bl true) H1 else tb σ H1 Q) : tOrV ta tb σ H Q := h
theorem notV (h : ta σ H fun x H1 => ∃ c, x = .bl c ∧ Q (.bl (!c)) H1) : tNotV ta σ H Q := h
theorem chain {r r' : R2} {tc : TE} (h : ta σ H fun x H1 => tb σ H1 fun y H2 => r x y H2 fun z H3 => ∃ k, z = .bl k ∧ (if k = true then tc σ H3 fun w' H4 => r' y w' H4 Q else Q (.bl false) H3)) : tChain r r' ta tb tc σ H Q := h
theorem tupL {p : Addr} {ys : List V} (h : SqL K H p ys) (q : Mt H ys Q) : rTupQ K [.ref p] H Q := ⟨p, ys, rfl, .inl ⟨h, fun l n => q _ l (same_upd n) n upd_same⟩⟩
theorem lstL {p : Addr} {ys : List V} (h : SqL K H p ys) (q : Ml H ys Q) : rListQ K [.ref p] H Q := ⟨p, ys, rfl, .inl h, fun l n => q _ l (same_upd n) n upd_same⟩
theorem cat {l b : Addr} {xs zs : List V} (h1 : H l = some (.lst xs)) (h2 : H b = some (.lst zs)) (z : Nat.ble (xs.length + zs.length) 1000 = true) (q : Ml H (xs ++ zs) Q) : rCat (.ref l) (.ref b) H Q :=
  ⟨l, b, xs, zs, rfl, rfl, h1, h2, Nat.le_of_lt (small1000 (Nat.le_of_ble_eq_true z)), fun p n => q _ p (same_upd n) n upd_same⟩
theorem isiT {b : Bool} (q : Q (.bl true) H) : rIsi K [.bl b, .ty "bool"] H Q := Wc.isiT q
theorem isiTup {a : Addr} {xs : List V} (h : H a = some (.tup xs)) (q : Q (.bl true) H) : rIsi K [.ref a, .ty "tuple"] H Q := Wc.isiTup h q
theorem isiLst {a : Addr} {xs : List V} (h : H a = some (.lst xs)) (q : Q (.bl true) H) : rIsi K [.ref a, .ty "list"] H Q := Wc.isiLst h q
/-! == of tuples of ints -/
theorem eqB {ns ms : List Int} : PyData.eqv (.tuple (ns.map PyData.int)) (.tuple (ms.map PyData.int)) = decide (ns = ms) := by
  have h : ∀ ns ms : List Int, PyData.eqvAll (ns.map PyData.int) (ms.map PyData.int) = decide (ns = ms) := by
    intro ns
    induction ns with
    | nil => intro ms; cases ms <;> simp [PyData.eqvAll]
    | cons n ns ih => intro ms; cases ms with
      | nil => simp [PyData.eqvAll]
      | cons m ms =>
        rw [List.map_cons, List.map_cons, PyData.eqvAll, ih]
        by_cases h : n = m
        · simp [PyData.eqv, h]
        · simp [PyData.eqv, h]
  rw [PyData.eqv]
  exact h ns ms
theorem eqTs {p q : Addr} {ns ms : List Int} {b : Bool} (h1 : SqT K H p (ns.map V.int)) (h2 : SqT K H q (ms.map V.int)) (hb : b = decide (ns = ms)) (h : Q (.bl b) H) : rEqD K (.ref p) (.ref q) H Q :=
  ⟨_, _, .tup h1 (dp_ints ns), .tup h2 (dp_ints ms), shaped_intsT ns, shaped_intsT ms, by rw [eqB, ← hb]; exact h⟩
theorem neTs {p q : Addr} {ns ms : List Int} {b : Bool} (h1 : SqT K H p (ns.map V.int)) (h2 : SqT K H q (ms.map V.int)) (hb : b = decide (ns = ms)) (h : Q (.bl (!b)) H) : rNeD K (.ref p) (.ref q) H Q :=
  ⟨_, _, .tup h1 (dp_ints ns), .tup h2 (dp_ints ms), shaped_intsT ns, shaped_intsT ms, by rw [eqB, ← hb]; exact h⟩
variable {p q : Addr} {a b c d a' b' c' d' : Int}
theorem eq2 (h1 : SqT K H p [.int a, .int b]) (h2 : SqT K H q [.int a', .int b']) (h : Q (.bl (decide (a = a' ∧ b = b'))) H) : rEqD K (.ref p) (.ref q) H Q :=
  eqTs (ns := [a, b]) (ms := [a', b']) h1 h2 (by simp) h
theorem ne2 (h1 : SqT K H p [.int a, .int b]) (h2 : SqT K H q [.int a', .int b']) (h : Q (.bl (!decide (a = a' ∧ b = b'))) H) : rNeD K (.ref p) (.ref q) H Q :=
  neTs (ns := [a, b]) (ms := [a', b']) h1 h2 (by simp) h
theorem eq3 (h1 : SqT K H p [.int a, .int b, .int c]) (h2 : SqT K H q [.int a', .int b', .int c']) (h : Q (.bl (decide (a = a' ∧ b = b' ∧ c = c'))) H) : rEqD K (.ref p) (.ref q) H Q :=
  eqTs (ns := [a, b, c]) (ms := [a', b', c']) h1 h2 (by simp) h
theorem ne3 (h1 : SqT K H p [.int a, .int b, .int c]) (h2 : SqT K H q [.int a', .int b', .int c']) (h : Q (.bl (!decide (a = a' ∧ b = b' ∧ c = c'))) H) : rNeD K (.ref p) (.ref q) H Q :=
  neTs (ns := [a, b, c]) (ms := [a', b', c']) h1 h2 (by simp) h
theorem eq4 (h1 : SqT K H p [.int a, .int b, .int c, .int d]) (h2 : SqT K H q [.int a', .int b', .int c', .int d']) (h : Q (.bl (decide (a = a' ∧ b = b' ∧ c = c' ∧ d = d'))) H) : rEqD K (.ref p) (.ref q) H Q :=
  eqTs (ns := [a, b, c, d]) (ms := [a', b', c', d']) h1 h2 (by simp) h
theorem ne4 (h1 : SqT K H p [.int a, .int b, .int c, .int d]) (h2 : SqT K H q [.int a', .int b', .int c', .int d']) (h : Q (.bl (!decide (a = a' ∧ b = b' ∧ c = c' ∧ d = d'))) H) : rNeD K (.ref p) (.ref q) H Q :=
  neTs (ns := [a, b, c, d]) (ms := [a', b', c', d']) h1 h2 (by simp) h
/-! loops over ranges, comprehensions -/
def ForJ (J : It) (g : TG) (tb : TS) (D : Ends) (σ : L2.St) (H1 : Hp) : Prop := ∃ W : Nat → Nat → L2.St → Hp → Prop, (∃ m, W 0 m σ H1) ∧ ∀ i m σ H, W i m σ H →
  (J.stop i H ∧ D.nx σ H) ∨ (J.go i H ∧ ∃ N : L2.St → Hp → Prop, (∀ σ' H', N σ' H' → ∃ m', m' < m ∧ W (i + 1) m' σ' H') ∧ ∀ x H', J.yld i H x H' → g x σ H' fun σ2 H2 => tb { D with nx := N, ct := N, bk := D.nx } σ2 H2)
theorem forE {wi : TI} {g : TG} {tb : TS} {D : Ends} (h : wi σ H fun J H1 => ForJ J g tb D σ H1) : tFor wi g tb D σ H := h
def RgOne (vs : List V) (P : Int → Prop) : Prop := ∃ j : Int, vs = [.int j] ∧ -(2 ^ 62) ≤ j ∧ j < 2 ^ 62 ∧ P j
def RgTwo (vs : List V) (P : Int → Int → Prop) : Prop := ∃ i j : Int, vs = [.int i, .int j] ∧ (-(2 ^ 62) ≤ i ∧ i < 2 ^ 62 ∧ -(2 ^ 62) ≤ j ∧ j < 2 ^ 62) ∧ P i j
theorem rng1 {ta : TA} {R : It → Hp → Prop} (h : ta σ H fun vs H1 => RgOne vs fun j => R (Itr 0 j.toNat) H1) : iRng1 ta σ H R := h
theorem rng2 {ta : TA} {R : It → Hp → Prop} (h : ta σ H fun vs H1 => RgTwo vs fun i j => R (Itr i (j - i).toNat) H1) : iRng2 ta σ H R := h
theorem rg1 {P : Int → Prop} {j : Int} (h1 : -(2 ^ 62) ≤ j) (h2 : j < 2 ^ 62) (h : P j) : RgOne [.int j] P := ⟨j, rfl, h1, h2, h⟩
theorem rg2 {P : Int → Int → Prop} {i j : Int} (h1 : -(2 ^ 62) ≤ i) (h2 : i < 2 ^ 62) (h3 : -(2 ^ 62) ≤ j) (h4 : j < 2 ^ 62) (h : P i j) : RgTwo [.int i, .int j] P := ⟨i, j, rfl, ⟨h1, h2, h3, h4⟩, h⟩
theorem forN {lo : Int} {n : Nat} {g : TG} {tb : TS} {D : Ends} (Pv : Nat → L2.St → Hp → Prop) (h0 : Pv 0 σ H)
    (hs : ∀ i σ H, i < n → Pv i σ H → g (.int (lo + i)) σ H fun σ2 H2 => tb (Ends.mk (Pv (i + 1)) D.rt D.nx (Pv (i + 1))) σ2 H2) (hd : ∀ σ H, Pv n σ H → D.nx σ H) : ForJ (Itr lo n) g tb D σ H := for_range Pv h0 hs hd
def RefOne (v : V) (P : Addr → Prop) : Prop := ∃ a, v = .ref a ∧ P a
theorem itup {tl : TE} {R : It → Hp → Prop} (h : tl σ H fun x H1 => ∃ a, x = .ref a ∧ (∃ xs, SqT K H1 a xs) ∧ R (Itt K a) H1) : iTup K tl σ H R := h
theorem ilst {tl : TE} {R : It → Hp → Prop} (h : tl σ H fun x H1 => ∃ a, x = .ref a ∧ (∃ xs, SqL K H1 a xs) ∧ R (Itl K a) H1) : iList K tl σ H R := h
theorem refs {p : Addr} {xs : List V} {S : Addr → List V → Prop} {R : Addr → Prop} (h1 : S p xs) (h : R p) : ∃ a, V.ref p = .ref a ∧ (∃ ys, S a ys) ∧ R a := ⟨p, rfl, ⟨xs, h1⟩, h⟩
def LcJ (J : It) (g : TG) (tt : TT) (te : TE) (vs : List Nat) (σ : L2.St) (H1 : Hp) (Q : VK) : Prop := ∀ D, H1 D = none → ∃ W : Nat → Nat → Hp → Prop, (∃ m, W 0 m (upd H1 D (.lst []))) ∧ ∀ i m H, W i m H →
  (J.stop i H ∧ Q (.ref D) H) ∨ (J.go i H ∧ ∃ Nx : Hp → Prop, (∀ H', Nx H' → ∃ m', m' < m ∧ W (i + 1) m' H') ∧ ∀ x H', J.yld i H x H' → g x (wipe σ vs) H' fun σ2 H2 => wipe σ2 vs = wipe σ vs ∧ tt σ2 H2 fun b H3 =>
    if b = true then te σ2 H3 fun y H4 => ∃ acc, H4 D = some (.lst acc) ∧ acc.length < sizeLine ∧ Nx (upd H4 D (.lst (acc ++ [y]))) else Nx H3)
theorem lcE {wi : TI} {g : TG} {tt : TT} {vs : List Nat} (h : wi σ H fun J H1 => LcJ J g tt te vs σ H1 Q) : tLc wi g tt te vs σ H Q := h
/-- [int for k in range(n)], each of them by c draws -/
theorem lcI {p a : Addr} {N c n : Nat} {lo : Int} {g : TG} {vs : List Nat} (P : Int → Prop) (hn : n ≤ 900) (d : Dw H p a N)
    (hs : ∀ i H' (Q' : VK), i < n → Dw H' p a (N + c * i) → Kp p H H' → (∀ x H4, P x → Dw H4 p a (N + c * i + c) → Kp p H' H4 → Q' (.int x) H4) → g (.int (lo + i)) (wipe σ vs) H' fun σ2 H2 => wipe σ2 vs = wipe σ vs ∧ te σ2 H2 Q')
    (hq : ∀ H' D (xs : List Int), H' D = some (.lst (xs.map V.int)) → xs.length = n → (∀ x ∈ xs, P x) → Dw H' p a (N + c * n) → Kp p H H' → H D = none → D ≠ p → Q (.ref D) H') : LcJ (Itr lo n) g tYes te vs σ H Q := by
  intro D nD
  have Dp := (d.ne nD).1
  have Da := (d.ne nD).2
  refine lc_range (lo := lo) (n := n) (fun i H' => ∃ xs : List Int, H' D = some (.lst (xs.map V.int)) ∧ xs.length = i ∧ (∀ x ∈ xs, P x) ∧ Dw H' p a (N + c * i) ∧ Kp p H H')
    ⟨[], upd_same, rfl, (fun x h => nomatch h), (d.new nD).mono (by omega), same_kp (same_upd nD)⟩ (fun i H5 hi ⟨xs, h1, h2, h3, h4, h5⟩ => ?_) (fun H5 ⟨xs, h1, h2, h3, h4, h5⟩ => hq H5 D xs h1 h2 h3 h4 h5 nD Dp)
  refine hs i H5 _ hi h4 h5 (fun x H4 px d4 k4 => ⟨_, k4 _ _ Dp h1, ?_, xs ++ [x], ?_, ?_, ?_, ?_, ?_⟩)
  · rw [List.length_map]
    exact small1000 (by omega)
  · rw [upd_same, List.map_append]
    rfl
  · rw [List.length_append, h2]
    rfl
  · intro z hz
    rcases List.mem_append.mp hz with hz | hz
    · exact h3 z hz
    · rw [List.mem_singleton.mp hz]
      exact px
  · have e : N + c * (i + 1) = N + c * i + c := by rw [Nat.mul_add, Nat.mul_one, Nat.add_assoc]
    rw [e]
    exact d4.mut Dp Da
  · intro b o hb e
    have e2 := k4 _ _ hb (h5 _ _ hb e)
    rw [upd_ne (ne_of_none e nD)]
    exact e2
/-- [f(x) for x in a tuple (a list) of ints] -/
theorem lcT {a : Addr} {ns : List Int} {g : TG} {vs : List Nat} (f : Int → Int) (hl : ns.length ≤ 900) (hT : SqT K H a (ns.map V.int))
    (hs : ∀ n H' (Q' : VK), n ∈ ns → Same H H' → Q' (.int (f n)) H' → g (.int n) (wipe σ vs) H' fun σ2 H2 => wipe σ2 vs = wipe σ vs ∧ te σ2 H2 Q')
    (hq : ∀ H' D, H' D = some (.lst ((ns.map f).map V.int)) → Same H H' → H D = none → Q (.ref D) H') : LcJ (Itt K a) g tYes te vs σ H Q := by
  intro D nD
  refine lc_tup (K := K) (a := a) (xs := ns.map V.int) (fun i H' => H' D = some (.lst (((ns.take i).map f).map V.int)) ∧ Same H H') ⟨upd_same, same_upd nD⟩ (fun i H' _ h => same_seqT h.2 hT) (fun i x H5 hx ⟨h1, h5⟩ => ?_) (fun H5 ⟨h1, h5⟩ => ?_)
  · rw [List.getElem?_map] at hx
    cases hn : ns[i]? with
    | none =>
      rw [hn] at hx
      cases hx
    | some n =>
      rw [hn] at hx
      cases hx
      refine hs n H5 _ (List.mem_of_getElem? hn) h5 ⟨_, h1, ?_, ?_, ?_⟩
      · rw [List.length_map, List.length_map, List.length_take]
        exact small1000 (by omega)
      · rw [upd_same, List.take_add_one, hn, List.map_append, List.map_append]
        rfl
      · exact same_mut h5 nD
  · rw [List.length_map, List.take_length] at h1
    exact hq H5 D h1 h5 nD
end
theorem isEq {α : Sort _} {a b : α} (h : a = b) : a = b := h
theorem isLeI {a b : Int} (h : a ≤ b) : a ≤ b := h
theorem cdiv {i j : Int} (h : decide (0 < j ∧ j < 1073741824) = true) : CDiv i j := of_decide_eq_true (p := 0 < j ∧ j < 1073741824) h
theorem cpow {i j : Int} (h : decide (0 ≤ j ∧ j ≤ 1000000 ∧ i.natAbs < 2 ^ 64) = true) : CPow i j := of_decide_eq_true (p := 0 ≤ j ∧ j ≤ 1000000 ∧ i.natAbs < 2 ^ 64) h
theorem isLe {a b : Nat} (h : a ≤ b) : a ≤ b := h
theorem isLtI {a b : Int} (h : a < b) : a < b := h
theorem isLt {a b : Nat} (h : a < b) : a < b := h
end R

/-! ### matrices as quadruples -/
abbrev T4 := Int × Int × Int × Int
def mm (m n : T4) : T4 := (m.1 * n.1 + m.2.1 * n.2.2.1, m.1 * n.2.1 + m.2.1 * n.2.2.2, m.2.2.1 * n.1 + m.2.2.2 * n.2.2.1, m.2.2.1 * n.2.1 + m.2.2.2 * n.2.2.2)
def mone : T4 := (1, 0, 0, 1)
def mdet (m : T4) : Int := m.1 * m.2.2.2 - m.2.1 * m.2.2.1
theorem t4_ext {a b c d a' b' c' d' : Int} (h1 : a = a') (h2 : b = b') (h3 : c = c') (h4 : d = d') : ((a, b, c, d) : T4) = (a', b', c', d') := by rw [h1, h2, h3, h4]
theorem mm_assoc (x y z : T4) : mm (mm x y) z = mm x (mm y z) := by
  obtain ⟨a, b, c, d⟩ := x
  obtain ⟨a', b', c', d'⟩ := y
  obtain ⟨a2, b2, c2, d2⟩ := z
  refine t4_ext ?_ ?_ ?_ ?_
  · show (a * a' + b * c') * a2 + (a * b' + b * d') * c2 = a * (a' * a2 + b' * c2) + b * (c' * a2 + d' * c2)
    grind
  · show (a * a' + b * c') * b2 + (a * b' + b * d') * d2 = a * (a' * b2 + b' * d2) + b * (c' * b2 + d' * d2)
    grind
  · show (c * a' + d * c') * a2 + (c * b' + d * d') * c2 = c * (a' * a2 + b' * c2) + d * (c' * a2 + d' * c2)
    grind
  · show (c * a' + d * c') * b2 + (c * b' + d * d') * d2 = c * (a' * b2 + b' * d2) + d * (c' * b2 + d' * d2)
    grind
theorem mm_one (x : T4) : mm x mone = x := by
  obtain ⟨a, b, c, d⟩ := x
  refine t4_ext ?_ ?_ ?_ ?_ <;> (dsimp only [mone]; omega)
theorem one_mm (x : T4) : mm mone x = x := by
  obtain ⟨a, b, c, d⟩ := x
  refine t4_ext ?_ ?_ ?_ ?_ <;> (dsimp only [mone]; omega)
def mpw (m : T4) : Nat → T4
  | 0 => mone
  | n + 1 => mm (mpw m n) m
theorem mpw_succ (m : T4) : ∀ n, mm m (mpw m n) = mpw m (n + 1)
  | 0 => by
    show mm m mone = mm mone m
    rw [mm_one, one_mm]
  | n + 1 => by
    show mm m (mm (mpw m n) m) = mm (mpw m (n + 1)) m
    rw [← mm_assoc, mpw_succ m n]
def madj (m : T4) : T4 := (mdet m * m.2.2.2, -(mdet m * m.2.1), -(mdet m * m.2.2.1), mdet m * m.1)
theorem madj_mul {m : T4} (h : mdet m = 1 ∨ mdet m = -1) : mm (madj m) m = mone ∧ mm m (madj m) = mone := by
  obtain ⟨a, b, c, d⟩ := m
  have e : mdet (a, b, c, d) = a * d - b * c := rfl
  generalize hD : mdet (a, b, c, d) = D at h e
  have k : D * D = 1 := by rcases h with h | h <;> rw [h] <;> rfl
  constructor
  · refine t4_ext ?_ ?_ ?_ ?_ <;> (dsimp only [madj]; rw [hD]; grind)
  · refine t4_ext ?_ ?_ ?_ ?_ <;> (dsimp only [madj]; rw [hD]; grind)
theorem mpw_inv {m : T4} (h : mdet m = 1 ∨ mdet m = -1) : ∀ n, mm (mpw (madj m) n) (mpw m n) = mone
  | 0 => mm_one _
  | n + 1 => by
    rw [← mpw_succ m n]
    show mm (mm (mpw (madj m) n) (madj m)) (mm m (mpw m n)) = mone
    rw [mm_assoc, ← mm_assoc (madj m), (madj_mul h).1, one_mm]
    exact mpw_inv h n
def lucU (t e : Int) : Nat → Int
  | 0 => 0
  | 1 => 1
  | n + 2 => t * lucU t e (n + 1) - e * lucU t e n
def lucV (t e : Int) : Nat → Int
  | 0 => 2
  | 1 => t
  | n + 2 => t * lucV t e (n + 1) - e * lucV t e n
theorem luc_step (t e : Int) : ∀ n, 2 * lucV t e (n + 1) = t * lucV t e n + (t * t - 4 * e) * lucU t e n ∧ 2 * lucU t e (n + 1) = t * lucU t e n + lucV t e n
  | 0 => by
    show 2 * t = t * 2 + (t * t - 4 * e) * 0 ∧ 2 * 1 = t * 0 + 2
    omega
  | 1 => by
    show 2 * (t * t - e * 2) = t * t + (t * t - 4 * e) * 1 ∧ 2 * (t * 1 - e * 0) = t * 1 + t
    omega
  | n + 2 => by
    obtain ⟨a1, a2⟩ := luc_step t e n
    obtain ⟨b1, b2⟩ := luc_step t e (n + 1)
    have c1 : lucV t e (n + 2 + 1) = t * lucV t e (n + 1 + 1) - e * lucV t e (n + 1) := rfl
    have c2 : lucU t e (n + 2 + 1) = t * lucU t e (n + 1 + 1) - e * lucU t e (n + 1) := rfl
    have c3 : lucV t e (n + 2) = t * lucV t e (n + 1) - e * lucV t e n := rfl
    have c4 : lucU t e (n + 2) = t * lucU t e (n + 1) - e * lucU t e n := rfl
    have c5 : lucV t e (n + 1 + 1) = lucV t e (n + 2) := rfl
    have c6 : lucU t e (n + 1 + 1) = lucU t e (n + 2) := rfl
    rw [c1, c2, c5, c6]
    rw [c5] at b1
    rw [c6] at b2
    generalize lucV t e (n + 2) = v2 at *
    generalize lucU t e (n + 2) = u2 at *
    generalize lucV t e (n + 1) = v1 at *
    generalize lucU t e (n + 1) = u1 at *
    generalize lucV t e n = v0 at *
    generalize lucU t e n = u0 at *
    clear c1 c2 c5 c6
    constructor
    · grind
    · grind
theorem luc_add (t e : Int) (n : Nat) : ∀ m, 2 * lucV t e (m + n) = lucV t e m * lucV t e n + (t * t - 4 * e) * (lucU t e m * lucU t e n) ∧ 2 * lucU t e (m + n) = lucU t e m * lucV t e n + lucV t e m * lucU t e n
  | 0 => by
    rw [Nat.zero_add]
    show 2 * lucV t e n = 2 * lucV t e n + (t * t - 4 * e) * (0 * lucU t e n) ∧ 2 * lucU t e n = 0 * lucV t e n + 2 * lucU t e n
    rw [Int.zero_mul, Int.zero_mul, Int.mul_zero]
    omega
  | m + 1 => by
    obtain ⟨a1, a2⟩ := luc_add t e n m
    have h : m + 1 + n = (m + n) + 1 := by omega
    rw [h]
    obtain ⟨b1, b2⟩ := luc_step t e (m + n)
    obtain ⟨c1, c2⟩ := luc_step t e m
    generalize lucV t e (m + n + 1) = w1 at *
    generalize lucU t e (m + n + 1) = w2 at *
    generalize lucV t e (m + n) = x1 at *
    generalize lucU t e (m + n) = x2 at *
    generalize lucV t e (m + 1) = y1 at *
    generalize lucU t e (m + 1) = y2 at *
    generalize lucV t e m = v at *
    generalize lucU t e m = u at *
    generalize lucV t e n = v' at *
    generalize lucU t e n = u' at *
    clear h
    have k1 : 2 * (2 * w1) = 2 * (y1 * v' + (t * t - 4 * e) * (y2 * u')) := by grind
    have k2 : 2 * (2 * w2) = 2 * (y2 * v' + y1 * u') := by grind
    omega
theorem luc_norm (t e : Int) : ∀ n, lucV t e n * lucV t e n - (t * t - 4 * e) * (lucU t e n * lucU t e n) = 4 * e ^ n
  | 0 => by
    rw [Int.pow_zero]
    show 2 * 2 - (t * t - 4 * e) * (0 * 0) = 4 * 1
    omega
  | n + 1 => by
    have ih := luc_norm t e n
    obtain ⟨b1, b2⟩ := luc_step t e n
    rw [Int.pow_succ]
    generalize e ^ n = en at *
    generalize lucV t e (n + 1) = y1 at *
    generalize lucU t e (n + 1) = y2 at *
    generalize lucV t e n = v at *
    generalize lucU t e n = u at *
    have k : (2 * y1) * (2 * y1) - (t * t - 4 * e) * ((2 * y2) * (2 * y2)) = 4 * (4 * (en * e)) := by
      rw [b1, b2]
      grind
    have k2 : (2 * y1) * (2 * y1) - (t * t - 4 * e) * ((2 * y2) * (2 * y2)) = 4 * (y1 * y1 - (t * t - 4 * e) * (y2 * y2)) := by grind
    omega
theorem luc_dbl (t e : Int) (n : Nat) : lucV t e (2 * n) = lucV t e n * lucV t e n - 2 * e ^ n ∧ lucU t e (2 * n) = lucV t e n * lucU t e n := by
  obtain ⟨a1, a2⟩ := luc_add t e n n
  have a3 := luc_norm t e n
  have h : n + n = 2 * n := by omega
  rw [h] at a1 a2
  rw [Int.mul_comm (lucU t e n) (lucV t e n)] at a2
  generalize (t * t - 4 * e) * (lucU t e n * lucU t e n) = z at *
  generalize lucV t e n * lucV t e n = z1 at *
  generalize lucV t e n * lucU t e n = z2 at *
  omega
theorem luc_odd (t e : Int) (n : Nat) : (t * lucV t e n + (t * t - 4 * e) * lucU t e n) / 2 = lucV t e (n + 1) ∧ (t * lucU t e n + lucV t e n) / 2 = lucU t e (n + 1) := by
  obtain ⟨a1, a2⟩ := luc_step t e n
  omega
theorem mpw_luc (m : T4) : ∀ n, 2 * (mpw m n).1 = lucV (m.1 + m.2.2.2) (mdet m) n + lucU (m.1 + m.2.2.2) (mdet m) n * (m.1 - m.2.2.2) ∧ (mpw m n).2.1 = lucU (m.1 + m.2.2.2) (mdet m) n * m.2.1 ∧
    (mpw m n).2.2.1 = lucU (m.1 + m.2.2.2) (mdet m) n * m.2.2.1 ∧ 2 * (mpw m n).2.2.2 = lucV (m.1 + m.2.2.2) (mdet m) n - lucU (m.1 + m.2.2.2) (mdet m) n * (m.1 - m.2.2.2)
  | 0 => by
    obtain ⟨p, q, r, s⟩ := m
    show 2 * 1 = 2 + 0 * (p - s) ∧ 0 = 0 * q ∧ 0 = 0 * r ∧ 2 * 1 = 2 - 0 * (p - s)
    omega
  | n + 1 => by
    have ih := mpw_luc m n
    obtain ⟨p, q, r, s⟩ := m
    have ee : mdet (p, q, r, s) = p * s - q * r := rfl
    generalize mdet (p, q, r, s) = e at ih ee ⊢
    obtain ⟨s1, s2⟩ := luc_step (p + s) e n
    dsimp only at ih ⊢
    have h0 : mpw (p, q, r, s) (n + 1) = mm (mpw (p, q, r, s) n) (p, q, r, s) := rfl
    rw [h0]
    generalize mpw (p, q, r, s) n = w at ih ⊢
    obtain ⟨a, b, c, d⟩ := w
    generalize lucV (p + s) e (n + 1) = v1 at *
    generalize lucU (p + s) e (n + 1) = u1 at *
    generalize lucV (p + s) e n = v at *
    generalize lucU (p + s) e n = u at *
    obtain ⟨i1, i2, i3, i4⟩ := ih
    dsimp only [mm] at *
    clear h0
    subst i2 i3 ee
    have z1 : 2 * (2 * (a * p + u * q * r)) = 2 * (v1 + u1 * (p - s)) := by grind
    have z2 : 2 * (a * q + u * q * s) = 2 * (u1 * q) := by grind
    have z3 : 2 * (u * r * p + d * r) = 2 * (u1 * r) := by grind
    have z4 : 2 * (2 * (u * r * q + d * s)) = 2 * (v1 - u1 * (p - s)) := by grind
    omega
theorem bd1 {e : Int} (he : e = 1 ∨ e = -1) : Bd 1 e := by
  rcases he with rfl | rfl <;> (unfold Bd; decide)
theorem luc_bd {N : Nat} {t e : Int} (ht : Bd N t) (he : e = 1 ∨ e = -1) : ∀ n, Bd ((N + 2) * (n + 1)) (lucU t e n) ∧ Bd ((N + 2) * (n + 1)) (lucV t e n)
  | 0 => by
    have h : 2 ^ 2 ≤ 2 ^ (N + 2) := Nat.pow_le_pow_right (by decide) (by omega)
    rw [Nat.zero_add, Nat.mul_one]
    constructor
    · show (0 : Int).natAbs < _
      omega
    · show (2 : Int).natAbs < _
      omega
  | 1 => by
    have h : 2 ^ 2 ≤ 2 ^ ((N + 2) * (1 + 1)) := Nat.pow_le_pow_right (by decide) (by omega)
    constructor
    · show (1 : Int).natAbs < _
      omega
    · exact ht.mono (by omega)
  | n + 2 => by
    obtain ⟨a1, a2⟩ := luc_bd ht he n
    obtain ⟨b1, b2⟩ := luc_bd ht he (n + 1)
    have be : Bd 1 e := bd1 he
    have e1 : (N + 2) * (n + 1 + 1) = (N + 2) * (n + 1) + (N + 2) := Nat.mul_succ _ _
    have e2 : (N + 2) * (n + 2 + 1) = (N + 2) * (n + 1) + (N + 2) + (N + 2) := by rw [Nat.mul_succ, ← e1]
    exact ⟨((ht.mul b1).sub (be.mul a1)).mono (by omega), ((ht.mul b2).sub (be.mul a2)).mono (by omega)⟩
theorem iteV {i : Nat} {σ : L2.St} {H : Hp} {Q : VK} {c : Prop} [Decidable c] {v w : V} (h1 : c → σ[i]? = some (some v)) (h2 : ¬ c → w = v) (q : Q v H) : if decide c = true then tVar i σ H Q else tC w σ H Q := by
  by_cases h : c
  · rw [if_pos (decide_eq_true h)]
    exact ⟨v, h1 h, q⟩
  · rw [if_neg (fun z => h (of_decide_eq_true z))]
    show Q w H
    rw [h2 h]
    exact q
theorem sgn_pow {e : Int} (he : e = 1 ∨ e = -1) (n : Nat) : (n % 2 = 1 → e ^ n = e) ∧ (n % 2 = 0 → e ^ n = 1) := by
  have sq : e * e = 1 := by rcases he with rfl | rfl <;> rfl
  induction n with
  | zero => exact ⟨fun h => by omega, fun _ => Int.pow_zero e⟩
  | succ n ih =>
    rw [Int.pow_succ]
    refine ⟨fun h => ?_, fun h => ?_⟩
    · rw [ih.2 (by omega), Int.one_mul]
    · rw [ih.1 (by omega), sq]

theorem mpw_shear (t : Int) : ∀ n : Nat, mpw (1, t, 0, 1) n = (1, t * (n : Int), 0, 1)
  | 0 => by
    show mone = _
    unfold mone
    refine t4_ext rfl ?_ rfl rfl
    show (0 : Int) = t * 0
    omega
  | n + 1 => by
    show mm (mpw (1, t, 0, 1) n) (1, t, 0, 1) = _
    rw [mpw_shear t n]
    refine t4_ext ?_ ?_ ?_ ?_
    · show 1 * 1 + t * (n : Int) * 0 = 1
      omega
    · show 1 * t + t * (n : Int) * 1 = t * ((n + 1 : Nat) : Int)
      rw [Int.natCast_add, Int.mul_add]
      omega
    · rfl
    · show 0 * t + 1 * 1 = (1 : Int)
      omega
theorem mpw_turn (t : Int) : ∀ n : Nat, mpw (1, 0, t, -1) (2 * n) = mone
  | 0 => rfl
  | n + 1 => by
    have h : 2 * (n + 1) = 2 * n + 1 + 1 := by omega
    rw [h]
    show mm (mm (mpw (1, 0, t, -1) (2 * n)) (1, 0, t, -1)) (1, 0, t, -1) = mone
    rw [mpw_turn t n, one_mm]
    refine t4_ext ?_ ?_ ?_ ?_ <;> (dsimp only; omega)
theorem mpw_bd {m : T4} (h1 : Bd 40 m.1) (h2 : Bd 40 m.2.1) (h3 : Bd 40 m.2.2.1) (h4 : Bd 40 m.2.2.2) : ∀ n, Bd (42 * n + 1) (mpw m n).1 ∧ Bd (42 * n + 1) (mpw m n).2.1 ∧ Bd (42 * n + 1) (mpw m n).2.2.1 ∧ Bd (42 * n + 1) (mpw m n).2.2.2
  | 0 => by
    show Bd 1 1 ∧ Bd 1 0 ∧ Bd 1 0 ∧ Bd 1 1
    unfold Bd
    decide
  | n + 1 => by
    obtain ⟨a, b, c, d⟩ := mpw_bd h1 h2 h3 h4 n
    exact ⟨((a.mul h1).add (b.mul h3)).mono (by omega), ((a.mul h2).add (b.mul h4)).mono (by omega), ((c.mul h1).add (d.mul h3)).mono (by omega), ((c.mul h2).add (d.mul h4)).mono (by omega)⟩
def rz (m : T4) (many : Int) : T4 := if 0 ≤ many then mpw m many.toNat else mpw (madj m) (-many).toNat
theorem bdsgn {n : Nat} {e x : Int} (he : e = 1 ∨ e = -1) (h : Bd n x) : Bd n (e * x) := by
  rcases he with rfl | rfl
  · rw [Int.one_mul]
    exact h
  · rw [Int.neg_mul, Int.one_mul]
    exact h.neg
theorem rz_bd {m : T4} {many : Int} (hd : mdet m = 1 ∨ mdet m = -1) (h0 : many ≤ 0) (h1 : Bd 40 m.1) (h2 : Bd 40 m.2.1) (h3 : Bd 40 m.2.2.1) (h4 : Bd 40 m.2.2.2) :
    Bd (42 * (-many).toNat + 1) (rz m many).1 ∧ Bd (42 * (-many).toNat + 1) (rz m many).2.1 ∧ Bd (42 * (-many).toNat + 1) (rz m many).2.2.1 ∧ Bd (42 * (-many).toNat + 1) (rz m many).2.2.2 := by
  unfold rz
  by_cases z : 0 ≤ many
  · obtain rfl : many = 0 := by omega
    rw [if_pos z]
    show Bd 1 1 ∧ Bd 1 0 ∧ Bd 1 0 ∧ Bd 1 1
    unfold Bd
    decide
  · rw [if_neg z]
    exact mpw_bd (bdsgn hd h4) (bdsgn hd h2).neg (bdsgn hd h3).neg (bdsgn hd h1) _
theorem rz_inv {m : T4} {many : Int} (hd : mdet m = 1 ∨ mdet m = -1) (h0 : 0 ≤ many) : mm (rz m (-many)) (mpw m many.toNat) = mone := by
  unfold rz
  by_cases z : 0 ≤ -many
  · obtain rfl : many = 0 := by omega
    rw [if_pos z]
    exact mm_one _
  · rw [if_neg z, Int.neg_neg]
    exact mpw_inv hd _
section
variable {P : Program} {w : World} {K : PySem.W.Frag} {mg : Str → Option Value} {base : Heap} {fa : Nat → Addr} {fd : Nat → FuncData}
def spMultiply (K : PySem.W.Frag) : Sp := fun vs H Q _ => ∃ (am an : Addr) (p q r s p2 q2 r2 s2 : Int) (N : Nat), vs = [.ref am, .ref an] ∧ SqT K H am [.int p, .int q, .int r, .int s] ∧ SqT K H an [.int p2, .int q2, .int r2, .int s2] ∧ Bd N p ∧ Bd N q ∧ Bd N r ∧ Bd N s ∧ Bd N p2 ∧ Bd N q2 ∧ Bd N r2 ∧ Bd N s2 ∧ N ≤ 400000 ∧ (R.Nw H [.int (p * p2 + q * r2), .int (p * q2 + q * s2), .int (r * p2 + s * r2), .int (r * q2 + s * s2)] Q)
theorem uMultiply {K : PySem.W.Frag} {H : Hp} {Q : VK} {E : XK} {vs : List V} {am an : Addr} {p q r s p2 q2 r2 s2 : Int} {n0 n1 n2 n3 n4 n5 n6 n7 : Nat} (e : vs = [.ref am, .ref an]) (s0 : SqT K H am [.int p, .int q, .int r, .int s]) (s1 : SqT K H an [.int p2, .int q2, .int r2, .int s2]) (b0 : Bd n0 p) (b1 : Bd n1 q) (b2 : Bd n2 r) (b3 : Bd n3 s) (b4 : Bd n4 p2) (b5 : Bd n5 q2) (b6 : Bd n6 r2) (b7 : Bd n7 s2) (l : (n0 + n1 + n2 + n3 + n4 + n5 + n6 + n7 ≤ 400000) = True) (kk : R.Nw H [.int (p * p2 + q * r2), .int (p * q2 + q * s2), .int (r * p2 + s * r2), .int (r * q2 + s * s2)] Q) : spMultiply K vs H Q E :=
  have l := of_eq_true l
  ⟨am, an, p, q, r, s, p2, q2, r2, s2, n0 + n1 + n2 + n3 + n4 + n5 + n6 + n7, e, s0, s1, b0.mono (by omega), b1.mono (by omega), b2.mono (by omega), b3.mono (by omega), b4.mono (by omega), b5.mono (by omega), b6.mono (by omega), b7.mono (by omega), l, kk⟩
theorem okMultiply (T : Txt K mg fa fd) : FnOk P w K mg base CX0 1 (fa 0) (fd 0) ["m", "n"] (spMultiply K) := by
  refine T.F_multiply.ok scMultiply (fun vs H Q E h => ?_) (fun cdv A outer s H vs Q E hr h => ?_)
  · obtain ⟨am, an, p, q, r, s, p2, q2, r2, s2, N, rfl, h_am, h_an, b_p, b_q, b_r, b_s, b_p2, b_q2, b_r2, b_s2, hN, kk⟩ := h
    rfl
  · obtain ⟨am, an, p, q, r, s, p2, q2, r2, s2, N, rfl, h_am, h_an, b_p, b_q, b_r, b_s, b_p2, b_q2, b_r2, b_s2, hN, kk⟩ := h
    refine ⟨_, (pss_cons (ps_asg (pv 0) (pgT K 4 (by rfl) (pgs_cons (pg_name (i := 2) scMultiply.nd rfl (Or.inl rfl)) (pgs_cons (pg_name (i := 3) scMultiply.nd rfl (Or.inl rfl)) (pgs_cons (pg_name (i := 4) scMultiply.nd rfl (Or.inl rfl)) (pgs_cons (pg_name (i := 5) scMultiply.nd rfl (Or.inl rfl)) pgs_nil))))))
      (pss_cons (ps_asg (pv 1) (pgT K 4 (by rfl) (pgs_cons (pg_name (i := 6) scMultiply.nd rfl (Or.inl rfl)) (pgs_cons (pg_name (i := 7) scMultiply.nd rfl (Or.inl rfl)) (pgs_cons (pg_name (i := 8) scMultiply.nd rfl (Or.inl rfl)) (pgs_cons (pg_name (i := 9) scMultiply.nd rfl (Or.inl rfl)) pgs_nil))))))
      (pss_one (ps_ret (pe_tup (pa_cons (pe_op op_add (pe_op op_mulW (pv 2) (pv 6)) (pe_op op_mulW (pv 3) (pv 8))) (pa_cons (pe_op op_add (pe_op op_mulW (pv 2) (pv 7)) (pe_op op_mulW (pv 3) (pv 9))) (pa_cons (pe_op op_add (pe_op op_mulW (pv 4) (pv 6)) (pe_op op_mulW (pv 5) (pv 8))) (pa_cons (pe_op op_add (pe_op op_mulW (pv 4) (pv 7)) (pe_op op_mulW (pv 5) (pv 9))) pa_nil))))))))), ?_⟩
    repeat' (first
      | with_reducible apply R.var
      | ((with_reducible apply R.isEq); exact rfl)
      | with_reducible apply R.op
      | with_reducible apply R.i2
      | with_reducible apply R.i0
      | with_reducible apply R.con
      | with_reducible apply R.cons
      | with_reducible apply R.nil
      | with_reducible apply R.gcons
      | with_reducible apply R.gname
      | ((with_reducible apply R.ixT); (focus ((repeat' (first | with_reducible assumption | with_reducible apply hU | ((with_reducible apply SqT.of); with_reducible assumption) | ((with_reducible apply same_seqT); with_reducible assumption) | ((with_reducible apply kp_seqT); with_reducible assumption) | ((with_reducible apply Dw.same); with_reducible assumption))); done)); exact rfl)
      | ((with_reducible apply R.ixL); (focus ((repeat' (first | with_reducible assumption | ((with_reducible apply SqL.of); with_reducible assumption) | ((with_reducible apply Same.seq); with_reducible assumption) | ((with_reducible apply Kp.seqL); with_reducible assumption) | ((with_reducible apply fresh_ne); with_reducible assumption) | ((with_reducible apply Dw.same); with_reducible assumption))); done)); exact rfl)
      | with_reducible assumption
      | with_reducible apply Bd.mulW
      | with_reducible apply Bd.mul
      | with_reducible apply Bd.add
      | with_reducible apply Bd.sub
      | ((with_reducible apply Bd.l8); exact eq_true (by decide))
      | ((with_reducible apply Bd.lit); exact eq_true (by decide))
      | with_reducible apply Bd.neg
      | with_reducible apply Bd.div
      | ((with_reducible apply Bd.om); omega)
      | ((with_reducible apply R.isLe); first | decide | omega)
      | with_reducible apply R.un
      | with_reducible apply R.u1
      | with_reducible apply R.tup
      | with_reducible apply R.lst
      | with_reducible apply R.call
      | with_reducible apply R.callB
      | with_reducible apply R.gtup
      | with_reducible apply R.gnil
      | with_reducible apply R.seq
      | with_reducible apply R.asg
      | with_reducible apply R.ret
      | with_reducible apply R.next
      | with_reducible apply R.drop
      | with_reducible apply R.par
      | with_reducible apply R.par2
      | with_reducible apply R.ifs
      | with_reducible apply R.tif
      | with_reducible apply R.test
      | with_reducible apply R.tb'
      | with_reducible apply R.isbl
      | with_reducible apply R.cmp
      | with_reducible apply R.t2i
      | with_reducible apply R.intp
      | with_reducible apply R.and
      | with_reducible apply R.or
      | with_reducible apply R.not
      | with_reducible apply R.andV
      | with_reducible apply R.orV
      | with_reducible apply R.notV
      | with_reducible apply R.chain
      | with_reducible apply R.tupL
      | with_reducible apply R.lstL
      | with_reducible apply R.cat
      | with_reducible apply R.isiT
      | with_reducible apply R.isiTup
      | with_reducible apply R.isiLst
      | with_reducible apply R.nwT
      | with_reducible apply R.nwL
      | ((with_reducible apply R.mt); intro HN tn sn nn ht)
      | ((with_reducible apply R.ml); intro HN tn sn nn ht)
      | ((with_reducible apply R.ne4); focus ((repeat' (first | with_reducible assumption | with_reducible apply hU | ((with_reducible apply SqT.of); with_reducible assumption) | ((with_reducible apply same_seqT); with_reducible assumption) | ((with_reducible apply kp_seqT); with_reducible assumption) | ((with_reducible apply Dw.same); with_reducible assumption))); done))
      | ((with_reducible apply R.ne3); focus ((repeat' (first | with_reducible assumption | with_reducible apply hU | ((with_reducible apply SqT.of); with_reducible assumption) | ((with_reducible apply same_seqT); with_reducible assumption) | ((with_reducible apply kp_seqT); with_reducible assumption) | ((with_reducible apply Dw.same); with_reducible assumption))); done))
      | ((with_reducible apply R.ne2); focus ((repeat' (first | with_reducible assumption | with_reducible apply hU | ((with_reducible apply SqT.of); with_reducible assumption) | ((with_reducible apply same_seqT); with_reducible assumption) | ((with_reducible apply kp_seqT); with_reducible assumption) | ((with_reducible apply Dw.same); with_reducible assumption))); done))
      | ((with_reducible apply R.eq4); focus ((repeat' (first | with_reducible assumption | with_reducible apply hU | ((with_reducible apply SqT.of); with_reducible assumption) | ((with_reducible apply same_seqT); with_reducible assumption) | ((with_reducible apply kp_seqT); with_reducible assumption) | ((with_reducible apply Dw.same); with_reducible assumption))); done))
      | ((with_reducible apply R.eq3); focus ((repeat' (first | with_reducible assumption | with_reducible apply hU | ((with_reducible apply SqT.of); with_reducible assumption) | ((with_reducible apply same_seqT); with_reducible assumption) | ((with_reducible apply kp_seqT); with_reducible assumption) | ((with_reducible apply Dw.same); with_reducible assumption))); done))
      | ((with_reducible apply R.eq2); focus ((repeat' (first | with_reducible assumption | with_reducible apply hU | ((with_reducible apply SqT.of); with_reducible assumption) | ((with_reducible apply same_seqT); with_reducible assumption) | ((with_reducible apply kp_seqT); with_reducible assumption) | ((with_reducible apply Dw.same); with_reducible assumption))); done))
      | with_reducible apply uLawNext
      | with_reducible apply uLawWide
      | with_reducible apply uLawChange
      | with_reducible apply uDeterminant
      | with_reducible apply uApply
      | with_reducible apply uNegative
      | with_reducible apply uLawAt
      | with_reducible apply uLawMul
      | with_reducible apply uInverse
      | ((with_reducible apply R.nw); intro HN tn sn ht)
      | with_reducible apply iteT
      | with_reducible apply iteF
      | ((with_reducible apply SqT.of); with_reducible assumption)
      | ((with_reducible apply SqL.of); with_reducible assumption)
      | ((with_reducible apply same_seqT); with_reducible assumption)
      | ((with_reducible apply sameB); with_reducible assumption)
      | ((with_reducible apply same_at); with_reducible assumption)
      | ((with_reducible apply kp_seqT); with_reducible assumption)
      | ((with_reducible apply Same.seq); with_reducible assumption)
      | ((with_reducible apply Kp.seqL); with_reducible assumption)
      | ((with_reducible apply fresh_ne); with_reducible assumption)
      | ((with_reducible apply Dw.same); with_reducible assumption)
      | ((with_reducible apply R.isEq); exact eq_true (by first | decide | omega))
      | ((with_reducible apply R.isLt); first | decide | omega)
      | ((with_reducible apply R.isLtI); first | decide | omega)
      | ((with_reducible apply R.isLeI); first | decide | omega)
      | ((with_reducible apply R.cdiv); exact rfl)
      | ((with_reducible apply R.cpow); exact rfl)
      | with_reducible apply hU
      | ((with_reducible apply wayNF); first | exact rfl | exact ⟨rfl, rfl⟩ | exact ⟨rfl, rfl, rfl⟩ | exact ⟨rfl, rfl, rfl, rfl⟩)
      | with_reducible apply R.forE
      | with_reducible apply R.rng1
      | with_reducible apply R.rng2
      | with_reducible apply R.rg1
      | with_reducible apply R.rg2
      | with_reducible apply R.lcE
      | with_reducible apply R.itup
      | with_reducible apply R.ilst
      )
    all_goals first | omega | exact kk | (refine kk _ _ ?_ (by assumption); (repeat' (first | with_reducible exact Same.refl _ | with_reducible assumption | ((with_reducible apply sameB); with_reducible assumption))))
def spDeterminant (K : PySem.W.Frag) : Sp := fun vs H Q _ => ∃ (am : Addr) (p q r s : Int) (N : Nat), vs = [.ref am] ∧ SqT K H am [.int p, .int q, .int r, .int s] ∧ Bd N p ∧ Bd N q ∧ Bd N r ∧ Bd N s ∧ N ≤ 400000 ∧ (Q (.int (p * s - q * r)) H)
theorem uDeterminant {K : PySem.W.Frag} {H : Hp} {Q : VK} {E : XK} {vs : List V} {am : Addr} {p q r s : Int} {n0 n1 n2 n3 : Nat} (e : vs = [.ref am]) (s0 : SqT K H am [.int p, .int q, .int r, .int s]) (b0 : Bd n0 p) (b1 : Bd n1 q) (b2 : Bd n2 r) (b3 : Bd n3 s) (l : (n0 + n1 + n2 + n3 ≤ 400000) = True) (kk : Q (.int (p * s - q * r)) H) : spDeterminant K vs H Q E :=
  have l := of_eq_true l
  ⟨am, p, q, r, s, n0 + n1 + n2 + n3, e, s0, b0.mono (by omega), b1.mono (by omega), b2.mono (by omega), b3.mono (by omega), l, kk⟩
theorem okDeterminant (T : Txt K mg fa fd) : FnOk P w K mg base CX0 1 (fa 1) (fd 1) ["m"] (spDeterminant K) := by
  refine T.F_determinant.ok scDeterminant (fun vs H Q E h => ?_) (fun cdv A outer s H vs Q E hr h => ?_)
  · obtain ⟨am, p, q, r, s, N, rfl, h_am, b_p, b_q, b_r, b_s, hN, kk⟩ := h
    rfl
  · obtain ⟨am, p, q, r, s, N, rfl, h_am, b_p, b_q, b_r, b_s, hN, kk⟩ := h
    refine ⟨_, (pss_cons (ps_asg (pv 0) (pgT K 4 (by rfl) (pgs_cons (pg_name (i := 1) scDeterminant.nd rfl (Or.inl rfl)) (pgs_cons (pg_name (i := 2) scDeterminant.nd rfl (Or.inl rfl)) (pgs_cons (pg_name (i := 3) scDeterminant.nd rfl (Or.inl rfl)) (pgs_cons (pg_name (i := 4) scDeterminant.nd rfl (Or.inl rfl)) pgs_nil))))))
      (pss_one (ps_ret (pe_op op_sub (pe_op op_mulW (pv 1) (pv 4)) (pe_op op_mulW (pv 2) (pv 3)))))), ?_⟩
    repeat' (first
      | with_reducible apply R.var
      | ((with_reducible apply R.isEq); exact rfl)
      | with_reducible apply R.op
      | with_reducible apply R.i2
      | with_reducible apply R.i0
      | with_reducible apply R.con
      | with_reducible apply R.cons
      | with_reducible apply R.nil
      | with_reducible apply R.gcons
      | with_reducible apply R.gname
      | ((with_reducible apply R.ixT); (focus ((repeat' (first | with_reducible assumption | with_reducible apply hU | ((with_reducible apply SqT.of); with_reducible assumption) | ((with_reducible apply same_seqT); with_reducible assumption) | ((with_reducible apply kp_seqT); with_reducible assumption) | ((with_reducible apply Dw.same); with_reducible assumption))); done)); exact rfl)
      | ((with_reducible apply R.ixL); (focus ((repeat' (first | with_reducible assumption | ((with_reducible apply SqL.of); with_reducible assumption) | ((with_reducible apply Same.seq); with_reducible assumption) | ((with_reducible apply Kp.seqL); with_reducible assumption) | ((with_reducible apply fresh_ne); with_reducible assumption) | ((with_reducible apply Dw.same); with_reducible assumption))); done)); exact rfl)
      | with_reducible assumption
      | with_reducible apply Bd.mulW
      | with_reducible apply Bd.mul
      | with_reducible apply Bd.add
      | with_reducible apply Bd.sub
      | ((with_reducible apply Bd.l8); exact eq_true (by decide))
      | ((with_reducible apply Bd.lit); exact eq_true (by decide))
      | with_reducible apply Bd.neg
      | with_reducible apply Bd.div
      | ((with_reducible apply Bd.om); omega)
      | ((with_reducible apply R.isLe); first | decide | omega)
      | with_reducible apply R.un
      | with_reducible apply R.u1
      | with_reducible apply R.tup
      | with_reducible apply R.lst
      | with_reducible apply R.call
      | with_reducible apply R.callB
      | with_reducible apply R.gtup
      | with_reducible apply R.gnil
      | with_reducible apply R.seq
      | with_reducible apply R.asg
      | with_reducible apply R.ret
      | with_reducible apply R.next
      | with_reducible apply R.drop
      | with_reducible apply R.par
      | with_reducible apply R.par2
      | with_reducible apply R.ifs
      | with_reducible apply R.tif
      | with_reducible apply R.test
      | with_reducible apply R.tb'
      | with_reducible apply R.isbl
      | with_reducible apply R.cmp
      | with_reducible apply R.t2i
      | with_reducible apply R.intp
      | with_reducible apply R.and
      | with_reducible apply R.or
      | with_reducible apply R.not
      | with_reducible apply R.andV
      | with_reducible apply R.orV
      | with_reducible apply R.notV
      | with_reducible apply R.chain
      | with_reducible apply R.tupL
      | with_reducible apply R.lstL
      | with_reducible apply R.cat
      | with_reducible apply R.isiT
      | with_reducible apply R.isiTup
      | with_reducible apply R.isiLst
      | with_reducible apply R.nwT
      | with_reducible apply R.nwL
      | ((with_reducible apply R.mt); intro HN tn sn nn ht)
      | ((with_reducible apply R.ml); intro HN tn sn nn ht)
      | ((with_reducible apply R.ne4); focus ((repeat' (first | with_reducible assumption | with_reducible apply hU | ((with_reducible apply SqT.of); with_reducible assumption) | ((with_reducible apply same_seqT); with_reducible assumption) | ((with_reducible apply kp_seqT); with_reducible assumption) | ((with_reducible apply Dw.same); with_reducible assumption))); done))
      | ((with_reducible apply R.ne3); focus ((repeat' (first | with_reducible assumption | with_reducible apply hU | ((with_reducible apply SqT.of); with_reducible assumption) | ((with_reducible apply same_seqT); with_reducible assumption) | ((with_reducible apply kp_seqT); with_reducible assumption) | ((with_reducible apply Dw.same); with_reducible assumption))); done))
      | ((with_reducible apply R.ne2); focus ((repeat' (first | with_reducible assumption | with_reducible apply hU | ((with_reducible apply SqT.of); with_reducible assumption) | ((with_reducible apply same_seqT); with_reducible assumption) | ((with_reducible apply kp_seqT); with_reducible assumption) | ((with_reducible apply Dw.same); with_reducible assumption))); done))
      | ((with_reducible apply R.eq4); focus ((repeat' (first | with_reducible assumption | with_reducible apply hU | ((with_reducible apply SqT.of); with_reducible assumption) | ((with_reducible apply same_seqT); with_reducible assumption) | ((with_reducible apply kp_seqT); with_reducible assumption) | ((with_reducible apply Dw.same); with_reducible assumption))); done))
      | ((with_reducible apply R.eq3); focus ((repeat' (first | with_reducible assumption | with_reducible apply hU | ((with_reducible apply SqT.of); with_reducible assumption) | ((with_reducible apply same_seqT); with_reducible assumption) | ((with_reducible apply kp_seqT); with_reducible assumption) | ((with_reducible apply Dw.same); with_reducible assumption))); done))
      | ((with_reducible apply R.eq2); focus ((repeat' (first | with_reducible assumption | with_reducible apply hU | ((with_reducible apply SqT.of); with_reducible assumption) | ((with_reducible apply same_seqT); with_reducible assumption) | ((with_reducible apply kp_seqT); with_reducible assumption) | ((with_reducible apply Dw.same); with_reducible assumption))); done))
      | with_reducible apply uLawNext
      | with_reducible apply uLawWide
      | with_reducible apply uLawChange
      | with_reducible apply uMultiply
      | with_reducible apply uApply
      | with_reducible apply uNegative
      | with_reducible apply uLawAt
      | with_reducible apply uLawMul
      | with_reducible apply uInverse
      | ((with_reducible apply R.nw); intro HN tn sn ht)
      | with_reducible apply iteT
      | with_reducible apply iteF
      | ((with_reducible apply SqT.of); with_reducible assumption)
      | ((with_reducible apply SqL.of); with_reducible assumption)
      | ((with_reducible apply same_seqT); with_reducible assumption)
      | ((with_reducible apply sameB); with_reducible assumption)
      | ((with_reducible apply same_at); with_reducible assumption)
      | ((with_reducible apply kp_seqT); with_reducible assumption)
      | ((with_reducible apply Same.seq); with_reducible assumption)
      | ((with_reducible apply Kp.seqL); with_reducible assumption)
      | ((with_reducible apply fresh_ne); with_reducible assumption)
      | ((with_reducible apply Dw.same); with_reducible assumption)
      | ((with_reducible apply R.isEq); exact eq_true (by first | decide | omega))
      | ((with_reducible apply R.isLt); first | decide | omega)
      | ((with_reducible apply R.isLtI); first | decide | omega)
      | ((with_reducible apply R.isLeI); first | decide | omega)
      | ((with_reducible apply R.cdiv); exact rfl)
      | ((with_reducible apply R.cpow); exact rfl)
      | with_reducible apply hU
      | ((with_reducible apply wayNF); first | exact rfl | exact ⟨rfl, rfl⟩ | exact ⟨rfl, rfl, rfl⟩ | exact ⟨rfl, rfl, rfl, rfl⟩)
      | with_reducible apply R.forE
      | with_reducible apply R.rng1
      | with_reducible apply R.rng2
      | with_reducible apply R.rg1
      | with_reducible apply R.rg2
      | with_reducible apply R.lcE
      | with_reducible apply R.itup
      | with_reducible apply R.ilst
      )
    all_goals first | omega | exact kk | (refine kk _ _ ?_ (by assumption); (repeat' (first | with_reducible exact Same.refl _ | with_reducible assumption | ((with_reducible apply sameB); with_reducible assumption))))
def spApply (K : PySem.W.Frag) : Sp := fun vs H Q _ => ∃ (am apoint : Addr) (p q r s x y : Int) (N : Nat), vs = [.ref am, .ref apoint] ∧ SqT K H am [.int p, .int q, .int r, .int s] ∧ SqT K H apoint [.int x, .int y] ∧ Bd N p ∧ Bd N q ∧ Bd N r ∧ Bd N s ∧ Bd N x ∧ Bd N y ∧ N ≤ 400000 ∧ (R.Nw H [.int (p * x + q * y), .int (r * x + s * y)] Q)
theorem uApply {K : PySem.W.Frag} {H : Hp} {Q : VK} {E : XK} {vs : List V} {am apoint : Addr} {p q r s x y : Int} {n0 n1 n2 n3 n4 n5 : Nat} (e : vs = [.ref am, .ref apoint]) (s0 : SqT K H am [.int p, .int q, .int r, .int s]) (s1 : SqT K H apoint [.int x, .int y]) (b0 : Bd n0 p) (b1 : Bd n1 q) (b2 : Bd n2 r) (b3 : Bd n3 s) (b4 : Bd n4 x) (b5 : Bd n5 y) (l : (n0 + n1 + n2 + n3 + n4 + n5 ≤ 400000) = True) (kk : R.Nw H [.int (p * x + q * y), .int (r * x + s * y)] Q) : spApply K vs H Q E :=
  have l := of_eq_true l
  ⟨am, apoint, p, q, r, s, x, y, n0 + n1 + n2 + n3 + n4 + n5, e, s0, s1, b0.mono (by omega), b1.mono (by omega), b2.mono (by omega), b3.mono (by omega), b4.mono (by omega), b5.mono (by omega), l, kk⟩
theorem okApply (T : Txt K mg fa fd) : FnOk P w K mg base CX0 1 (fa 2) (fd 2) ["m", "point"] (spApply K) := by
  refine T.F_apply.ok scApply (fun vs H Q E h => ?_) (fun cdv A outer s H vs Q E hr h => ?_)
  · obtain ⟨am, apoint, p, q, r, s, x, y, N, rfl, h_am, h_apoint, b_p, b_q, b_r, b_s, b_x, b_y, hN, kk⟩ := h
    rfl
  · obtain ⟨am, apoint, p, q, r, s, x, y, N, rfl, h_am, h_apoint, b_p, b_q, b_r, b_s, b_x, b_y, hN, kk⟩ := h
    refine ⟨_, (pss_cons (ps_asg (pv 0) (pgT K 4 (by rfl) (pgs_cons (pg_name (i := 2) scApply.nd rfl (Or.inl rfl)) (pgs_cons (pg_name (i := 3) scApply.nd rfl (Or.inl rfl)) (pgs_cons (pg_name (i := 4) scApply.nd rfl (Or.inl rfl)) (pgs_cons (pg_name (i := 5) scApply.nd rfl (Or.inl rfl)) pgs_nil))))))
      (pss_cons (ps_asg (pv 1) (pgT K 2 (by rfl) (pgs_cons (pg_name (i := 6) scApply.nd rfl (Or.inl rfl)) (pgs_cons (pg_name (i := 7) scApply.nd rfl (Or.inl rfl)) pgs_nil))))
      (pss_one (ps_ret (pe_tup (pa_cons (pe_op op_add (pe_op op_mulW (pv 2) (pv 6)) (pe_op op_mulW (pv 3) (pv 7))) (pa_cons (pe_op op_add (pe_op op_mulW (pv 4) (pv 6)) (pe_op op_mulW (pv 5) (pv 7))) pa_nil))))))), ?_⟩
    repeat' (first
      | with_reducible apply R.var
      | ((with_reducible apply R.isEq); exact rfl)
      | with_reducible apply R.op
      | with_reducible apply R.i2
      | with_reducible apply R.i0
      | with_reducible apply R.con
      | with_reducible apply R.cons
      | with_reducible apply R.nil
      | with_reducible apply R.gcons
      | with_reducible apply R.gname
      | ((with_reducible apply R.ixT); (focus ((repeat' (first | with_reducible assumption | with_reducible apply hU | ((with_reducible apply SqT.of); with_reducible assumption) | ((with_reducible apply same_seqT); with_reducible assumption) | ((with_reducible apply kp_seqT); with_reducible assumption) | ((with_reducible apply Dw.same); with_reducible assumption))); done)); exact rfl)
      | ((with_reducible apply R.ixL); (focus ((repeat' (first | with_reducible assumption | ((with_reducible apply SqL.of); with_reducible assumption) | ((with_reducible apply Same.seq); with_reducible assumption) | ((with_reducible apply Kp.seqL); with_reducible assumption) | ((with_reducible apply fresh_ne); with_reducible assumption) | ((with_reducible apply Dw.same); with_reducible assumption))); done)); exact rfl)
      | with_reducible assumption
      | with_reducible apply Bd.mulW
      | with_reducible apply Bd.mul
      | with_reducible apply Bd.add
      | with_reducible apply Bd.sub
      | ((with_reducible apply Bd.l8); exact eq_true (by decide))
      | ((with_reducible apply Bd.lit); exact eq_true (by decide))
      | with_reducible apply Bd.neg
      | with_reducible apply Bd.div
      | ((with_reducible apply Bd.om); omega)
      | ((with_reducible apply R.isLe); first | decide | omega)
      | with_reducible apply R.un
      | with_reducible apply R.u1
      | with_reducible apply R.tup
      | with_reducible apply R.lst
      | with_reducible apply R.call
      | with_reducible apply R.callB
      | with_reducible apply R.gtup
      | with_reducible apply R.gnil
      | with_reducible apply R.seq
      | with_reducible apply R.asg
      | with_reducible apply R.ret
      | with_reducible apply R.next
      | with_reducible apply R.drop
      | with_reducible apply R.par
      | with_reducible apply R.par2
      | with_reducible apply R.ifs
      | with_reducible apply R.tif
      | with_reducible apply R.test
      | with_reducible apply R.tb'
      | with_reducible apply R.isbl
      | with_reducible apply R.cmp
      | with_reducible apply R.t2i
      | with_reducible apply R.intp
      | with_reducible apply R.and
      | with_reducible apply R.or
      | with_reducible apply R.not
      | with_reducible apply R.andV
      | with_reducible apply R.orV
      | with_reducible apply R.notV
      | with_reducible apply R.chain
      | with_reducible apply R.tupL
      | with_reducible apply R.lstL
      | with_reducible apply R.cat
      | with_reducible apply R.isiT
      | with_reducible apply R.isiTup
      | with_reducible apply R.isiLst
      | with_reducible apply R.nwT
      | with_reducible apply R.nwL
      | ((with_reducible apply R.mt); intro HN tn sn nn ht)
      | ((with_reducible apply R.ml); intro HN tn sn nn ht)
      | ((with_reducible apply R.ne4); focus ((repeat' (first | with_reducible assumption | with_reducible apply hU | ((with_reducible apply SqT.of); with_reducible assumption) | ((with_reducible apply same_seqT); with_reducible assumption) | ((with_reducible apply kp_seqT); with_reducible assumption) | ((with_reducible apply Dw.same); with_reducible assumption))); done))
      | ((with_reducible apply R.ne3); focus ((repeat' (first | with_reducible assumption | with_reducible apply hU | ((with_reducible apply SqT.of); with_reducible assumption) | ((with_reducible apply same_seqT); with_reducible assumption) | ((with_reducible apply kp_seqT); with_reducible assumption) | ((with_reducible apply Dw.same); with_reducible assumption))); done))
      | ((with_reducible apply R.ne2); focus ((repeat' (first | with_reducible assumption | with_reducible apply hU | ((with_reducible apply SqT.of); with_reducible assumption) | ((with_reducible apply same_seqT); with_reducible assumption) | ((with_reducible apply kp_seqT); with_reducible assumption) | ((with_reducible apply Dw.same); with_reducible assumption))); done))
      | ((with_reducible apply R.eq4); focus ((repeat' (first | with_reducible assumption | with_reducible apply hU | ((with_reducible apply SqT.of); with_reducible assumption) | ((with_reducible apply same_seqT); with_reducible assumption) | ((with_reducible apply kp_seqT); with_reducible assumption) | ((with_reducible apply Dw.same); with_reducible assumption))); done))
      | ((with_reducible apply R.eq3); focus ((repeat' (first | with_reducible assumption | with_reducible apply hU | ((with_reducible apply SqT.of); with_reducible assumption) | ((with_reducible apply same_seqT); with_reducible assumption) | ((with_reducible apply kp_seqT); with_reducible assumption) | ((with_reducible apply Dw.same); with_reducible assumption))); done))
      | ((with_reducible apply R.eq2); focus ((repeat' (first | with_reducible assumption | with_reducible apply hU | ((with_reducible apply SqT.of); with_reducible assumption) | ((with_reducible apply same_seqT); with_reducible assumption) | ((with_reducible apply kp_seqT); with_reducible assumption) | ((with_reducible apply Dw.same); with_reducible assumption))); done))
      | with_reducible apply uLawNext
      | with_reducible apply uLawWide
      | with_reducible apply uLawChange
      | with_reducible apply uMultiply
      | with_reducible apply uDeterminant
      | with_reducible apply uNegative
      | with_reducible apply uLawAt
      | with_reducible apply uLawMul
      | with_reducible apply uInverse
      | ((with_reducible apply R.nw); intro HN tn sn ht)
      | with_reducible apply iteT
      | with_reducible apply iteF
      | ((with_reducible apply SqT.of); with_reducible assumption)
      | ((with_reducible apply SqL.of); with_reducible assumption)
      | ((with_reducible apply same_seqT); with_reducible assumption)
      | ((with_reducible apply sameB); with_reducible assumption)
      | ((with_reducible apply same_at); with_reducible assumption)
      | ((with_reducible apply kp_seqT); with_reducible assumption)
      | ((with_reducible apply Same.seq); with_reducible assumption)
      | ((with_reducible apply Kp.seqL); with_reducible assumption)
      | ((with_reducible apply fresh_ne); with_reducible assumption)
      | ((with_reducible apply Dw.same); with_reducible assumption)
      | ((with_reducible apply R.isEq); exact eq_true (by first | decide | omega))
      | ((with_reducible apply R.isLt); first | decide | omega)
      | ((with_reducible apply R.isLtI); first | decide | omega)
      | ((with_reducible apply R.isLeI); first | decide | omega)
      | ((with_reducible apply R.cdiv); exact rfl)
      | ((with_reducible apply R.cpow); exact rfl)
      | with_reducible apply hU
      | ((with_reducible apply wayNF); first | exact rfl | exact ⟨rfl, rfl⟩ | exact ⟨rfl, rfl, rfl⟩ | exact ⟨rfl, rfl, rfl, rfl⟩)
      | with_reducible apply R.forE
      | with_reducible apply R.rng1
      | with_reducible apply R.rng2
      | with_reducible apply R.rg1
      | with_reducible apply R.rg2
      | with_reducible apply R.lcE
      | with_reducible apply R.itup
      | with_reducible apply R.ilst
      )
    all_goals first | omega | exact kk | (refine kk _ _ ?_ (by assumption); (repeat' (first | with_reducible exact Same.refl _ | with_reducible assumption | ((with_reducible apply sameB); with_reducible assumption))))
def spNegative (K : PySem.W.Frag) : Sp := fun vs H Q _ => ∃ (am : Addr) (p q r s : Int) (N : Nat), vs = [.ref am] ∧ SqT K H am [.int p, .int q, .int r, .int s] ∧ Bd N p ∧ Bd N q ∧ Bd N r ∧ Bd N s ∧ N ≤ 400000 ∧ (R.Nw H [.int (-p), .int (-q), .int (-r), .int (-s)] Q)
theorem uNegative {K : PySem.W.Frag} {H : Hp} {Q : VK} {E : XK} {vs : List V} {am : Addr} {p q r s : Int} {n0 n1 n2 n3 : Nat} (e : vs = [.ref am]) (s0 : SqT K H am [.int p, .int q, .int r, .int s]) (b0 : Bd n0 p) (b1 : Bd n1 q) (b2 : Bd n2 r) (b3 : Bd n3 s) (l : (n0 + n1 + n2 + n3 ≤ 400000) = True) (kk : R.Nw H [.int (-p), .int (-q), .int (-r), .int (-s)] Q) : spNegative K vs H Q E :=
  have l := of_eq_true l
  ⟨am, p, q, r, s, n0 + n1 + n2 + n3, e, s0, b0.mono (by omega), b1.mono (by omega), b2.mono (by omega), b3.mono (by omega), l, kk⟩
theorem okNegative (T : Txt K mg fa fd) : FnOk P w K mg base CX0 1 (fa 3) (fd 3) ["m"] (spNegative K) := by
  refine T.F_negative.ok scNegative (fun vs H Q E h => ?_) (fun cdv A outer s H vs Q E hr h => ?_)
  · obtain ⟨am, p, q, r, s, N, rfl, h_am, b_p, b_q, b_r, b_s, hN, kk⟩ := h
    rfl
  · obtain ⟨am, p, q, r, s, N, rfl, h_am, b_p, b_q, b_r, b_s, hN, kk⟩ := h
    refine ⟨_, (pss_cons (ps_asg (pv 0) (pgT K 4 (by rfl) (pgs_cons (pg_name (i := 1) scNegative.nd rfl (Or.inl rfl)) (pgs_cons (pg_name (i := 2) scNegative.nd rfl (Or.inl rfl)) (pgs_cons (pg_name (i := 3) scNegative.nd rfl (Or.inl rfl)) (pgs_cons (pg_name (i := 4) scNegative.nd rfl (Or.inl rfl)) pgs_nil))))))
      (pss_one (ps_ret (pe_tup (pa_cons (pe_un un_neg (pv 1)) (pa_cons (pe_un un_neg (pv 2)) (pa_cons (pe_un un_neg (pv 3)) (pa_cons (pe_un un_neg (pv 4)) pa_nil)))))))), ?_⟩
    repeat' (first
      | with_reducible apply R.var
      | ((with_reducible apply R.isEq); exact rfl)
      | with_reducible apply R.op
      | with_reducible apply R.i2
      | with_reducible apply R.i0
      | with_reducible apply R.con
      | with_reducible apply R.cons
      | with_reducible apply R.nil
      | with_reducible apply R.gcons
      | with_reducible apply R.gname
      | ((with_reducible apply R.ixT); (focus ((repeat' (first | with_reducible assumption | with_reducible apply hU | ((with_reducible apply SqT.of); with_reducible assumption) | ((with_reducible apply same_seqT); with_reducible assumption) | ((with_reducible apply kp_seqT); with_reducible assumption) | ((with_reducible apply Dw.same); with_reducible assumption))); done)); exact rfl)
      | ((with_reducible apply R.ixL); (focus ((repeat' (first | with_reducible assumption | ((with_reducible apply SqL.of); with_reducible assumption) | ((with_reducible apply Same.seq); with_reducible assumption) | ((with_reducible apply Kp.seqL); with_reducible assumption) | ((with_reducible apply fresh_ne); with_reducible assumption) | ((with_reducible apply Dw.same); with_reducible assumption))); done)); exact rfl)
      | with_reducible assumption
      | with_reducible apply Bd.mulW
      | with_reducible apply Bd.mul
      | with_reducible apply Bd.add
      | with_reducible apply Bd.sub
      | ((with_reducible apply Bd.l8); exact eq_true (by decide))
      | ((with_reducible apply Bd.lit); exact eq_true (by decide))
      | with_reducible apply Bd.neg
      | with_reducible apply Bd.div
      | ((with_reducible apply Bd.om); omega)
      | ((with_reducible apply R.isLe); first | decide | omega)
      | with_reducible apply R.un
      | with_reducible apply R.u1
      | with_reducible apply R.tup
      | with_reducible apply R.lst
      | with_reducible apply R.call
      | with_reducible apply R.callB
      | with_reducible apply R.gtup
      | with_reducible apply R.gnil
      | with_reducible apply R.seq
      | with_reducible apply R.asg
      | with_reducible apply R.ret
      | with_reducible apply R.next
      | with_reducible apply R.drop
      | with_reducible apply R.par
      | with_reducible apply R.par2
      | with_reducible apply R.ifs
      | with_reducible apply R.tif
      | with_reducible apply R.test
      | with_reducible apply R.tb'
      | with_reducible apply R.isbl
      | with_reducible apply R.cmp
      | with_reducible apply R.t2i
      | with_reducible apply R.intp
      | with_reducible apply R.and
      | with_reducible apply R.or
      | with_reducible apply R.not
      | with_reducible apply R.andV
      | with_reducible apply R.orV
      | with_reducible apply R.notV
      | with_reducible apply R.chain
      | with_reducible apply R.tupL
      | with_reducible apply R.lstL
      | with_reducible apply R.cat
      | with_reducible apply R.isiT
      | with_reducible apply R.isiTup
      | with_reducible apply R.isiLst
      | with_reducible apply R.nwT
      | with_reducible apply R.nwL
      | ((with_reducible apply R.mt); intro HN tn sn nn ht)
      | ((with_reducible apply R.ml); intro HN tn sn nn ht)
      | ((with_reducible apply R.ne4); focus ((repeat' (first | with_reducible assumption | with_reducible apply hU | ((with_reducible apply SqT.of); with_reducible assumption) | ((with_reducible apply same_seqT); with_reducible assumption) | ((with_reducible apply kp_seqT); with_reducible assumption) | ((with_reducible apply Dw.same); with_reducible assumption))); done))
      | ((with_reducible apply R.ne3); focus ((repeat' (first | with_reducible assumption | with_reducible apply hU | ((with_reducible apply SqT.of); with_reducible assumption) | ((with_reducible apply same_seqT); with_reducible assumption) | ((with_reducible apply kp_seqT); with_reducible assumption) | ((with_reducible apply Dw.same); with_reducible assumption))); done))
      | ((with_reducible apply R.ne2); focus ((repeat' (first | with_reducible assumption | with_reducible apply hU | ((with_reducible apply SqT.of); with_reducible assumption) | ((with_reducible apply same_seqT); with_reducible assumption) | ((with_reducible apply kp_seqT); with_reducible assumption) | ((with_reducible apply Dw.same); with_reducible assumption))); done))
      | ((with_reducible apply R.eq4); focus ((repeat' (first | with_reducible assumption | with_reducible apply hU | ((with_reducible apply SqT.of); with_reducible assumption) | ((with_reducible apply same_seqT); with_reducible assumption) | ((with_reducible apply kp_seqT); with_reducible assumption) | ((with_reducible apply Dw.same); with_reducible assumption))); done))
      | ((with_reducible apply R.eq3); focus ((repeat' (first | with_reducible assumption | with_reducible apply hU | ((with_reducible apply SqT.of); with_reducible assumption) | ((with_reducible apply same_seqT); with_reducible assumption) | ((with_reducible apply kp_seqT); with_reducible assumption) | ((with_reducible apply Dw.same); with_reducible assumption))); done))
      | ((with_reducible apply R.eq2); focus ((repeat' (first | with_reducible assumption | with_reducible apply hU | ((with_reducible apply SqT.of); with_reducible assumption) | ((with_reducible apply same_seqT); with_reducible assumption) | ((with_reducible apply kp_seqT); with_reducible assumption) | ((with_reducible apply Dw.same); with_reducible assumption))); done))
      | with_reducible apply uLawNext
      | with_reducible apply uLawWide
      | with_reducible apply uLawChange
      | with_reducible apply uMultiply
      | with_reducible apply uDeterminant
      | with_reducible apply uApply
      | with_reducible apply uLawAt
      | with_reducible apply uLawMul
      | with_reducible apply uInverse
      | ((with_reducible apply R.nw); intro HN tn sn ht)
      | with_reducible apply iteT
      | with_reducible apply iteF
      | ((with_reducible apply SqT.of); with_reducible assumption)
      | ((with_reducible apply SqL.of); with_reducible assumption)
      | ((with_reducible apply same_seqT); with_reducible assumption)
      | ((with_reducible apply sameB); with_reducible assumption)
      | ((with_reducible apply same_at); with_reducible assumption)
      | ((with_reducible apply kp_seqT); with_reducible assumption)
      | ((with_reducible apply Same.seq); with_reducible assumption)
      | ((with_reducible apply Kp.seqL); with_reducible assumption)
      | ((with_reducible apply fresh_ne); with_reducible assumption)
      | ((with_reducible apply Dw.same); with_reducible assumption)
      | ((with_reducible apply R.isEq); exact eq_true (by first | decide | omega))
      | ((with_reducible apply R.isLt); first | decide | omega)
      | ((with_reducible apply R.isLtI); first | decide | omega)
      | ((with_reducible apply R.isLeI); first | decide | omega)
      | ((with_reducible apply R.cdiv); exact rfl)
      | ((with_reducible apply R.cpow); exact rfl)
      | with_reducible apply hU
      | ((with_reducible apply wayNF); first | exact rfl | exact ⟨rfl, rfl⟩ | exact ⟨rfl, rfl, rfl⟩ | exact ⟨rfl, rfl, rfl, rfl⟩)
      | with_reducible apply R.forE
      | with_reducible apply R.rng1
      | with_reducible apply R.rng2
      | with_reducible apply R.rg1
      | with_reducible apply R.rg2
      | with_reducible apply R.lcE
      | with_reducible apply R.itup
      | with_reducible apply R.ilst
      )
    all_goals first | omega | exact kk | (refine kk _ _ ?_ (by assumption); (repeat' (first | with_reducible exact Same.refl _ | with_reducible assumption | ((with_reducible apply sameB); with_reducible assumption))))
def spInverse (K : PySem.W.Frag) : Sp := fun vs H Q _ => ∃ (am : Addr) (p q r s : Int) (N : Nat), vs = [.ref am] ∧ SqT K H am [.int p, .int q, .int r, .int s] ∧ Bd N p ∧ Bd N q ∧ Bd N r ∧ Bd N s ∧ N ≤ 100000 ∧ (p * s - q * r = 1 ∨ p * s - q * r = -1) ∧ (R.Nw H [.int ((p * s - q * r) * s), .int (-((p * s - q * r) * q)), .int (-((p * s - q * r) * r)), .int ((p * s - q * r) * p)] Q)
theorem uInverse {K : PySem.W.Frag} {H : Hp} {Q : VK} {E : XK} {vs : List V} {am : Addr} {p q r s : Int} {n0 n1 n2 n3 : Nat} (e : vs = [.ref am]) (s0 : SqT K H am [.int p, .int q, .int r, .int s]) (b0 : Bd n0 p) (b1 : Bd n1 q) (b2 : Bd n2 r) (b3 : Bd n3 s) (l : (n0 + n1 + n2 + n3 ≤ 100000) = True) (c : (p * s - q * r = 1 ∨ p * s - q * r = -1)) (kk : R.Nw H [.int ((p * s - q * r) * s), .int (-((p * s - q * r) * q)), .int (-((p * s - q * r) * r)), .int ((p * s - q * r) * p)] Q) : spInverse K vs H Q E :=
  have l := of_eq_true l
  ⟨am, p, q, r, s, n0 + n1 + n2 + n3, e, s0, b0.mono (by omega), b1.mono (by omega), b2.mono (by omega), b3.mono (by omega), l, c, kk⟩
theorem okInverse (T : Txt K mg fa fd) : FnOk P w K mg base CX0 2 (fa 4) (fd 4) ["m"] (spInverse K) := by
  refine T.F_inverse.ok scInverse (fun vs H Q E h => ?_) (fun cdv A outer s H vs Q E hr h => ?_)
  · obtain ⟨am, p, q, r, s, N, rfl, h_am, b_p, b_q, b_r, b_s, hN, c, kk⟩ := h
    rfl
  · obtain ⟨am, p, q, r, s, N, rfl, h_am, b_p, b_q, b_r, b_s, hN, c, kk⟩ := h
    refine ⟨_, (pss_cons (ps_asg (pv 0) (pgT K 4 (by rfl) (pgs_cons (pg_name (i := 1) scInverse.nd rfl (Or.inl rfl)) (pgs_cons (pg_name (i := 2) scInverse.nd rfl (Or.inl rfl)) (pgs_cons (pg_name (i := 3) scInverse.nd rfl (Or.inl rfl)) (pgs_cons (pg_name (i := 4) scInverse.nd rfl (Or.inl rfl)) pgs_nil))))))
      (pss_cons (ps_set (i := 5) scInverse.nd rfl (Or.inl rfl) (pe_tup (pa_cons (pv 4) (pa_cons (pe_un un_neg (pv 2)) (pa_cons (pe_un un_neg (pv 3)) (pa_cons (pv 1) pa_nil))))))
      (pss_one (ps_ret (pe_ifExp (pt_cmp (pc_eqI (pe_call (sp := spDeterminant K) (okDeterminant T) hr (by rfl) T.G_determinant T.F_determinant.kp T.B_determinant .nil pass0 (pa_cons (pv 0) pa_nil)) pe_int)) (pv 5) (pe_call (sp := spNegative K) (okNegative T) hr (by rfl) T.G_negative T.F_negative.kp T.B_negative .nil pass0 (pa_cons (pv 5) pa_nil))))))), ?_⟩
    repeat' (first
      | with_reducible apply R.var
      | ((with_reducible apply R.isEq); exact rfl)
      | with_reducible apply R.op
      | with_reducible apply R.i2
      | with_reducible apply R.i0
      | with_reducible apply R.con
      | with_reducible apply R.cons
      | with_reducible apply R.nil
      | with_reducible apply R.gcons
      | with_reducible apply R.gname
      | ((with_reducible apply R.ixT); (focus ((repeat' (first | with_reducible assumption | with_reducible apply hU | ((with_reducible apply SqT.of); with_reducible assumption) | ((with_reducible apply same_seqT); with_reducible assumption) | ((with_reducible apply kp_seqT); with_reducible assumption) | ((with_reducible apply Dw.same); with_reducible assumption))); done)); exact rfl)
      | ((with_reducible apply R.ixL); (focus ((repeat' (first | with_reducible assumption | ((with_reducible apply SqL.of); with_reducible assumption) | ((with_reducible apply Same.seq); with_reducible assumption) | ((with_reducible apply Kp.seqL); with_reducible assumption) | ((with_reducible apply fresh_ne); with_reducible assumption) | ((with_reducible apply Dw.same); with_reducible assumption))); done)); exact rfl)
      | with_reducible assumption
      | with_reducible apply Bd.mulW
      | with_reducible apply Bd.mul
      | with_reducible apply Bd.add
      | with_reducible apply Bd.sub
      | ((with_reducible apply Bd.l8); exact eq_true (by decide))
      | ((with_reducible apply Bd.lit); exact eq_true (by decide))
      | with_reducible apply Bd.neg
      | with_reducible apply Bd.div
      | ((with_reducible apply Bd.om); omega)
      | ((with_reducible apply R.isLe); first | decide | omega)
      | with_reducible apply R.un
      | with_reducible apply R.u1
      | with_reducible apply R.tup
      | with_reducible apply R.lst
      | with_reducible apply R.call
      | with_reducible apply R.callB
      | with_reducible apply R.gtup
      | with_reducible apply R.gnil
      | with_reducible apply R.seq
      | with_reducible apply R.asg
      | with_reducible apply R.ret
      | with_reducible apply R.next
      | with_reducible apply R.drop
      | with_reducible apply R.par
      | with_reducible apply R.par2
      | with_reducible apply R.ifs
      | with_reducible apply R.tif
      | with_reducible apply R.test
      | with_reducible apply R.tb'
      | with_reducible apply R.isbl
      | with_reducible apply R.cmp
      | with_reducible apply R.t2i
      | with_reducible apply R.intp
      | with_reducible apply R.and
      | with_reducible apply R.or
      | with_reducible apply R.not
      | with_reducible apply R.andV
      | with_reducible apply R.orV
      | with_reducible apply R.notV
      | with_reducible apply R.chain
      | with_reducible apply R.tupL
      | with_reducible apply R.lstL
      | with_reducible apply R.cat
      | with_reducible apply R.isiT
      | with_reducible apply R.isiTup
      | with_reducible apply R.isiLst
      | with_reducible apply R.nwT
      | with_reducible apply R.nwL
      | ((with_reducible apply R.mt); intro HN tn sn nn ht)
      | ((with_reducible apply R.ml); intro HN tn sn nn ht)
      | ((with_reducible apply R.ne4); focus ((repeat' (first | with_reducible assumption | with_reducible apply hU | ((with_reducible apply SqT.of); with_reducible assumption) | ((with_reducible apply same_seqT); with_reducible assumption) | ((with_reducible apply kp_seqT); with_reducible assumption) | ((with_reducible apply Dw.same); with_reducible assumption))); done))
      | ((with_reducible apply R.ne3); focus ((repeat' (first | with_reducible assumption | with_reducible apply hU | ((with_reducible apply SqT.of); with_reducible assumption) | ((with_reducible apply same_seqT); with_reducible assumption) | ((with_reducible apply kp_seqT); with_reducible assumption) | ((with_reducible apply Dw.same); with_reducible assumption))); done))
      | ((with_reducible apply R.ne2); focus ((repeat' (first | with_reducible assumption | with_reducible apply hU | ((with_reducible apply SqT.of); with_reducible assumption) | ((with_reducible apply same_seqT); with_reducible assumption) | ((with_reducible apply kp_seqT); with_reducible assumption) | ((with_reducible apply Dw.same); with_reducible assumption))); done))
      | ((with_reducible apply R.eq4); focus ((repeat' (first | with_reducible assumption | with_reducible apply hU | ((with_reducible apply SqT.of); with_reducible assumption) | ((with_reducible apply same_seqT); with_reducible assumption) | ((with_reducible apply kp_seqT); with_reducible assumption) | ((with_reducible apply Dw.same); with_reducible assumption))); done))
      | ((with_reducible apply R.eq3); focus ((repeat' (first | with_reducible assumption | with_reducible apply hU | ((with_reducible apply SqT.of); with_reducible assumption) | ((with_reducible apply same_seqT); with_reducible assumption) | ((with_reducible apply kp_seqT); with_reducible assumption) | ((with_reducible apply Dw.same); with_reducible assumption))); done))
      | ((with_reducible apply R.eq2); focus ((repeat' (first | with_reducible assumption | with_reducible apply hU | ((with_reducible apply SqT.of); with_reducible assumption) | ((with_reducible apply same_seqT); with_reducible assumption) | ((with_reducible apply kp_seqT); with_reducible assumption) | ((with_reducible apply Dw.same); with_reducible assumption))); done))
      | with_reducible apply uLawNext
      | with_reducible apply uLawWide
      | with_reducible apply uLawChange
      | with_reducible apply uMultiply
      | with_reducible apply uDeterminant
      | with_reducible apply uApply
      | with_reducible apply uNegative
      | with_reducible apply uLawAt
      | with_reducible apply uLawMul
      | ((with_reducible apply R.nw); intro HN tn sn ht)
      | with_reducible apply iteT
      | with_reducible apply iteF
      | ((with_reducible apply SqT.of); with_reducible assumption)
      | ((with_reducible apply SqL.of); with_reducible assumption)
      | ((with_reducible apply same_seqT); with_reducible assumption)
      | ((with_reducible apply sameB); with_reducible assumption)
      | ((with_reducible apply same_at); with_reducible assumption)
      | ((with_reducible apply kp_seqT); with_reducible assumption)
      | ((with_reducible apply Same.seq); with_reducible assumption)
      | ((with_reducible apply Kp.seqL); with_reducible assumption)
      | ((with_reducible apply fresh_ne); with_reducible assumption)
      | ((with_reducible apply Dw.same); with_reducible assumption)
      | ((with_reducible apply R.isEq); exact eq_true (by first | decide | omega))
      | ((with_reducible apply R.isLt); first | decide | omega)
      | ((with_reducible apply R.isLtI); first | decide | omega)
      | ((with_reducible apply R.isLeI); first | decide | omega)
      | ((with_reducible apply R.cdiv); exact rfl)
      | ((with_reducible apply R.cpow); exact rfl)
      | with_reducible apply hU
      | ((with_reducible apply wayNF); first | exact rfl | exact ⟨rfl, rfl⟩ | exact ⟨rfl, rfl, rfl⟩ | exact ⟨rfl, rfl, rfl, rfl⟩)
      | with_reducible apply R.forE
      | with_reducible apply R.rng1
      | with_reducible apply R.rng2
      | with_reducible apply R.rg1
      | with_reducible apply R.rg2
      | with_reducible apply R.lcE
      | with_reducible apply R.itup
      | with_reducible apply R.ilst
      )

    refine way2 (fun e => ?_) (fun e => ?_)
    · rw [e, Int.one_mul, Int.one_mul, Int.one_mul, Int.one_mul] at kk
      repeat' (first
        | with_reducible apply R.var
        | ((with_reducible apply R.isEq); exact rfl)
        | with_reducible apply R.op
        | with_reducible apply R.i2
        | with_reducible apply R.i0
        | with_reducible apply R.con
        | with_reducible apply R.cons
        | with_reducible apply R.nil
        | with_reducible apply R.gcons
        | with_reducible apply R.gname
        | ((with_reducible apply R.ixT); (focus ((repeat' (first | with_reducible assumption | with_reducible apply hU | ((with_reducible apply SqT.of); with_reducible assumption) | ((with_reducible apply same_seqT); with_reducible assumption) | ((with_reducible apply kp_seqT); with_reducible assumption) | ((with_reducible apply Dw.same); with_reducible assumption))); done)); exact rfl)
        | ((with_reducible apply R.ixL); (focus ((repeat' (first | with_reducible assumption | ((with_reducible apply SqL.of); with_reducible assumption) | ((with_reducible apply Same.seq); with_reducible assumption) | ((with_reducible apply Kp.seqL); with_reducible assumption) | ((with_reducible apply fresh_ne); with_reducible assumption) | ((with_reducible apply Dw.same); with_reducible assumption))); done)); exact rfl)
        | with_reducible assumption
        | with_reducible apply Bd.mulW
        | with_reducible apply Bd.mul
        | with_reducible apply Bd.add
        | with_reducible apply Bd.sub
        | ((with_reducible apply Bd.l8); exact eq_true (by decide))
        | ((with_reducible apply Bd.lit); exact eq_true (by decide))
        | with_reducible apply Bd.neg
        | with_reducible apply Bd.div
        | ((with_reducible apply Bd.om); omega)
        | ((with_reducible apply R.isLe); first | decide | omega)
        | with_reducible apply R.un
        | with_reducible apply R.u1
        | with_reducible apply R.tup
        | with_reducible apply R.lst
        | with_reducible apply R.call
        | with_reducible apply R.callB
        | with_reducible apply R.gtup
        | with_reducible apply R.gnil
        | with_reducible apply R.seq
        | with_reducible apply R.asg
        | with_reducible apply R.ret
        | with_reducible apply R.next
        | with_reducible apply R.drop
        | with_reducible apply R.par
        | with_reducible apply R.par2
        | with_reducible apply R.ifs
        | with_reducible apply R.tif
        | with_reducible apply R.test
        | with_reducible apply R.tb'
        | with_reducible apply R.isbl
        | with_reducible apply R.cmp
        | with_reducible apply R.t2i
        | with_reducible apply R.intp
        | with_reducible apply R.and
        | with_reducible apply R.or
        | with_reducible apply R.not
        | with_reducible apply R.andV
        | with_reducible apply R.orV
        | with_reducible apply R.notV
        | with_reducible apply R.chain
        | with_reducible apply R.tupL
        | with_reducible apply R.lstL
        | with_reducible apply R.cat
        | with_reducible apply R.isiT
        | with_reducible apply R.isiTup
        | with_reducible apply R.isiLst
        | with_reducible apply R.nwT
        | with_reducible apply R.nwL
        | ((with_reducible apply R.mt); intro HN tn sn nn ht)
        | ((with_reducible apply R.ml); intro HN tn sn nn ht)
        | ((with_reducible apply R.ne4); focus ((repeat' (first | with_reducible assumption | with_reducible apply hU | ((with_reducible apply SqT.of); with_reducible assumption) | ((with_reducible apply same_seqT); with_reducible assumption) | ((with_reducible apply kp_seqT); with_reducible assumption) | ((with_reducible apply Dw.same); with_reducible assumption))); done))
        | ((with_reducible apply R.ne3); focus ((repeat' (first | with_reducible assumption | with_reducible apply hU | ((with_reducible apply SqT.of); with_reducible assumption) | ((with_reducible apply same_seqT); with_reducible assumption) | ((with_reducible apply kp_seqT); with_reducible assumption) | ((with_reducible apply Dw.same); with_reducible assumption))); done))
        | ((with_reducible apply R.ne2); focus ((repeat' (first | with_reducible assumption | with_reducible apply hU | ((with_reducible apply SqT.of); with_reducible assumption) | ((with_reducible apply same_seqT); with_reducible assumption) | ((with_reducible apply kp_seqT); with_reducible assumption) | ((with_reducible apply Dw.same); with_reducible assumption))); done))
        | ((with_reducible apply R.eq4); focus ((repeat' (first | with_reducible assumption | with_reducible apply hU | ((with_reducible apply SqT.of); with_reducible assumption) | ((with_reducible apply same_seqT); with_reducible assumption) | ((with_reducible apply kp_seqT); with_reducible assumption) | ((with_reducible apply Dw.same); with_reducible assumption))); done))
        | ((with_reducible apply R.eq3); focus ((repeat' (first | with_reducible assumption | with_reducible apply hU | ((with_reducible apply SqT.of); with_reducible assumption) | ((with_reducible apply same_seqT); with_reducible assumption) | ((with_reducible apply kp_seqT); with_reducible assumption) | ((with_reducible apply Dw.same); with_reducible assumption))); done))
        | ((with_reducible apply R.eq2); focus ((repeat' (first | with_reducible assumption | with_reducible apply hU | ((with_reducible apply SqT.of); with_reducible assumption) | ((with_reducible apply same_seqT); with_reducible assumption) | ((with_reducible apply kp_seqT); with_reducible assumption) | ((with_reducible apply Dw.same); with_reducible assumption))); done))
        | with_reducible apply uLawNext
        | with_reducible apply uLawWide
        | with_reducible apply uLawChange
        | with_reducible apply uMultiply
        | with_reducible apply uDeterminant
        | with_reducible apply uApply
        | with_reducible apply uNegative
        | with_reducible apply uLawAt
        | with_reducible apply uLawMul
        | ((with_reducible apply R.nw); intro HN tn sn ht)
        | with_reducible apply iteT
        | with_reducible apply iteF
        | ((with_reducible apply SqT.of); with_reducible assumption)
        | ((with_reducible apply SqL.of); with_reducible assumption)
        | ((with_reducible apply same_seqT); with_reducible assumption)
        | ((with_reducible apply sameB); with_reducible assumption)
        | ((with_reducible apply same_at); with_reducible assumption)
        | ((with_reducible apply kp_seqT); with_reducible assumption)
        | ((with_reducible apply Same.seq); with_reducible assumption)
        | ((with_reducible apply Kp.seqL); with_reducible assumption)
        | ((with_reducible apply fresh_ne); with_reducible assumption)
        | ((with_reducible apply Dw.same); with_reducible assumption)
        | ((with_reducible apply R.isEq); exact eq_true (by first | decide | omega))
        | ((with_reducible apply R.isLt); first | decide | omega)
        | ((with_reducible apply R.isLtI); first | decide | omega)
        | ((with_reducible apply R.isLeI); first | decide | omega)
        | ((with_reducible apply R.cdiv); exact rfl)
        | ((with_reducible apply R.cpow); exact rfl)
        | with_reducible apply hU
        | ((with_reducible apply wayNF); first | exact rfl | exact ⟨rfl, rfl⟩ | exact ⟨rfl, rfl, rfl⟩ | exact ⟨rfl, rfl, rfl, rfl⟩)
        | with_reducible apply R.forE
        | with_reducible apply R.rng1
        | with_reducible apply R.rng2
        | with_reducible apply R.rg1
        | with_reducible apply R.rg2
        | with_reducible apply R.lcE
        | with_reducible apply R.itup
        | with_reducible apply R.ilst
        )
      all_goals exact kk _ _ (by assumption) (by assumption)
    · have e1 : p * s - q * r = -1 := c.resolve_left e
      rw [e1] at kk
      have e2 : ∀ x : Int, -1 * x = -x := fun x => by omega
      rw [e2, e2, e2, e2] at kk
      repeat' (first
        | with_reducible apply R.var
        | ((with_reducible apply R.isEq); exact rfl)
        | with_reducible apply R.op
        | with_reducible apply R.i2
        | with_reducible apply R.i0
        | with_reducible apply R.con
        | with_reducible apply R.cons
        | with_reducible apply R.nil
        | with_reducible apply R.gcons
        | with_reducible apply R.gname
        | ((with_reducible apply R.ixT); (focus ((repeat' (first | with_reducible assumption | with_reducible apply hU | ((with_reducible apply SqT.of); with_reducible assumption) | ((with_reducible apply same_seqT); with_reducible assumption) | ((with_reducible apply kp_seqT); with_reducible assumption) | ((with_reducible apply Dw.same); with_reducible assumption))); done)); exact rfl)
        | ((with_reducible apply R.ixL); (focus ((repeat' (first | with_reducible assumption | ((with_reducible apply SqL.of); with_reducible assumption) | ((with_reducible apply Same.seq); with_reducible assumption) | ((with_reducible apply Kp.seqL); with_reducible assumption) | ((with_reducible apply fresh_ne); with_reducible assumption) | ((with_reducible apply Dw.same); with_reducible assumption))); done)); exact rfl)
        | with_reducible assumption
        | with_reducible apply Bd.mulW
        | with_reducible apply Bd.mul
        | with_reducible apply Bd.add
        | with_reducible apply Bd.sub
        | ((with_reducible apply Bd.l8); exact eq_true (by decide))
        | ((with_reducible apply Bd.lit); exact eq_true (by decide))
        | with_reducible apply Bd.neg
        | with_reducible apply Bd.div
        | ((with_reducible apply Bd.om); omega)
        | ((with_reducible apply R.isLe); first | decide | omega)
        | with_reducible apply R.un
        | with_reducible apply R.u1
        | with_reducible apply R.tup
        | with_reducible apply R.lst
        | with_reducible apply R.call
        | with_reducible apply R.callB
        | with_reducible apply R.gtup
        | with_reducible apply R.gnil
        | with_reducible apply R.seq
        | with_reducible apply R.asg
        | with_reducible apply R.ret
        | with_reducible apply R.next
        | with_reducible apply R.drop
        | with_reducible apply R.par
        | with_reducible apply R.par2
        | with_reducible apply R.ifs
        | with_reducible apply R.tif
        | with_reducible apply R.test
        | with_reducible apply R.tb'
        | with_reducible apply R.isbl
        | with_reducible apply R.cmp
        | with_reducible apply R.t2i
        | with_reducible apply R.intp
        | with_reducible apply R.and
        | with_reducible apply R.or
        | with_reducible apply R.not
        | with_reducible apply R.andV
        | with_reducible apply R.orV
        | with_reducible apply R.notV
        | with_reducible apply R.chain
        | with_reducible apply R.tupL
        | with_reducible apply R.lstL
        | with_reducible apply R.cat
        | with_reducible apply R.isiT
        | with_reducible apply R.isiTup
        | with_reducible apply R.isiLst
        | with_reducible apply R.nwT
        | with_reducible apply R.nwL
        | ((with_reducible apply R.mt); intro HN tn sn nn ht)
        | ((with_reducible apply R.ml); intro HN tn sn nn ht)
        | ((with_reducible apply R.ne4); focus ((repeat' (first | with_reducible assumption | with_reducible apply hU | ((with_reducible apply SqT.of); with_reducible assumption) | ((with_reducible apply same_seqT); with_reducible assumption) | ((with_reducible apply kp_seqT); with_reducible assumption) | ((with_reducible apply Dw.same); with_reducible assumption))); done))
        | ((with_reducible apply R.ne3); focus ((repeat' (first | with_reducible assumption | with_reducible apply hU | ((with_reducible apply SqT.of); with_reducible assumption) | ((with_reducible apply same_seqT); with_reducible assumption) | ((with_reducible apply kp_seqT); with_reducible assumption) | ((with_reducible apply Dw.same); with_reducible assumption))); done))
        | ((with_reducible apply R.ne2); focus ((repeat' (first | with_reducible assumption | with_reducible apply hU | ((with_reducible apply SqT.of); with_reducible assumption) | ((with_reducible apply same_seqT); with_reducible assumption) | ((with_reducible apply kp_seqT); with_reducible assumption) | ((with_reducible apply Dw.same); with_reducible assumption))); done))
        | ((with_reducible apply R.eq4); focus ((repeat' (first | with_reducible assumption | with_reducible apply hU | ((with_reducible apply SqT.of); with_reducible assumption) | ((with_reducible apply same_seqT); with_reducible assumption) | ((with_reducible apply kp_seqT); with_reducible assumption) | ((with_reducible apply Dw.same); with_reducible assumption))); done))
        | ((with_reducible apply R.eq3); focus ((repeat' (first | with_reducible assumption | with_reducible apply hU | ((with_reducible apply SqT.of); with_reducible assumption) | ((with_reducible apply same_seqT); with_reducible assumption) | ((with_reducible apply kp_seqT); with_reducible assumption) | ((with_reducible apply Dw.same); with_reducible assumption))); done))
        | ((with_reducible apply R.eq2); focus ((repeat' (first | with_reducible assumption | with_reducible apply hU | ((with_reducible apply SqT.of); with_reducible assumption) | ((with_reducible apply same_seqT); with_reducible assumption) | ((with_reducible apply kp_seqT); with_reducible assumption) | ((with_reducible apply Dw.same); with_reducible assumption))); done))
        | with_reducible apply uLawNext
        | with_reducible apply uLawWide
        | with_reducible apply uLawChange
        | with_reducible apply uMultiply
        | with_reducible apply uDeterminant
        | with_reducible apply uApply
        | with_reducible apply uNegative
        | with_reducible apply uLawAt
        | with_reducible apply uLawMul
        | ((with_reducible apply R.nw); intro HN tn sn ht)
        | with_reducible apply iteT
        | with_reducible apply iteF
        | ((with_reducible apply SqT.of); with_reducible assumption)
        | ((with_reducible apply SqL.of); with_reducible assumption)
        | ((with_reducible apply same_seqT); with_reducible assumption)
        | ((with_reducible apply sameB); with_reducible assumption)
        | ((with_reducible apply same_at); with_reducible assumption)
        | ((with_reducible apply kp_seqT); with_reducible assumption)
        | ((with_reducible apply Same.seq); with_reducible assumption)
        | ((with_reducible apply Kp.seqL); with_reducible assumption)
        | ((with_reducible apply fresh_ne); with_reducible assumption)
        | ((with_reducible apply Dw.same); with_reducible assumption)
        | ((with_reducible apply R.isEq); exact eq_true (by first | decide | omega))
        | ((with_reducible apply R.isLt); first | decide | omega)
        | ((with_reducible apply R.isLtI); first | decide | omega)
        | ((with_reducible apply R.isLeI); first | decide | omega)
        | ((with_reducible apply R.cdiv); exact rfl)
        | ((with_reducible apply R.cpow); exact rfl)
        | with_reducible apply hU
        | ((with_reducible apply wayNF); first | exact rfl | exact ⟨rfl, rfl⟩ | exact ⟨rfl, rfl, rfl⟩ | exact ⟨rfl, rfl, rfl, rfl⟩)
        | with_reducible apply R.forE
        | with_reducible apply R.rng1
        | with_reducible apply R.rng2
        | with_reducible apply R.rg1
        | with_reducible apply R.rg2
        | with_reducible apply R.lcE
        | with_reducible apply R.itup
        | with_reducible apply R.ilst
        )
      all_goals (refine kk _ _ ?_ (by assumption); (repeat' (first | with_reducible exact Same.refl _ | with_reducible assumption | ((with_reducible apply sameB); with_reducible assumption))))

def spPP (d : Nat) (_ : PySem.W.Frag) : Sp := fun vs H Q _ => ∃ (t e many : Int) (N : Nat), vs = [.int t, .int e, .int many] ∧ 0 ≤ many ∧ (∃ f, d = f + 1 ∧ many.toNat < 2 ^ f) ∧ (e = 1 ∨ e = -1) ∧ Bd N t ∧ (N + 2) * (many.toNat + 1) ≤ 80000 ∧
  R.Nw H [.int (lucV t e many.toNat), .int (lucU t e many.toNat)] Q
theorem okPP (T : Txt K mg fa fd) (d : Nat) : FnOk P w K mg base CX0 d (fa 6) (fd 6) ["trace", "sign", "many"] (spPP d K) := by
  induction d with
  | zero =>
    refine ⟨?_, ?_⟩
    · rintro vs H Q E ⟨t, e, many, N, rfl, _⟩
      rfl
    · rintro A outer s H args us vs Q E hr he hb hv ⟨t, e, many, N, _, _, ⟨f, hf, _⟩, _⟩
      omega
  | succ d ih =>
  refine T.F__power_parts.ok scPowerParts (fun vs H Q E h => ?_) (fun cdv A outer s H vs Q E hr h => ?_)
  · obtain ⟨t, e, many, N, rfl, _⟩ := h
    rfl
  · obtain ⟨t, e, many, N, rfl, h0, ⟨f, hf, hm⟩, he, bt, hN, kk⟩ := h
    obtain rfl : d = f := by omega
    refine ⟨_, (pss_cons (ps_if (pt_cmp (pc_eqI (pv 2) pe_int))
      (pss_one (ps_ret (pe_tup (pa_cons pe_int (pa_cons pe_int pa_nil)))))
      pss_nil)
      (pss_cons (ps_asg (pe_call (sp := spPP d K) ih hr (by rfl) T.G__power_parts T.F__power_parts.kp T.B__power_parts .nil pass0 (pa_cons (pv 0) (pa_cons (pv 1) (pa_cons (pe_op op_fdiv (pv 2) pe_int) pa_nil)))) (pgT K 2 (by rfl) (pgs_cons (pg_name (i := 3) scPowerParts.nd rfl (Or.inl rfl)) (pgs_cons (pg_name (i := 4) scPowerParts.nd rfl (Or.inl rfl)) pgs_nil))))
      (pss_cons (ps_set (i := 5) scPowerParts.nd rfl (Or.inl rfl) (pe_ifExp (pt_cmp (pc_eqI (pe_op op_mod (pe_op op_fdiv (pv 2) pe_int) pe_int) pe_int)) (pv 1) pe_int))
      (pss_cons (ps_set (i := 6) scPowerParts.nd rfl (Or.inl rfl) (pe_op op_sub (pe_op op_mulW (pv 3) (pv 3)) (pe_op op_mulW pe_int (pv 5))))
      (pss_cons (ps_set (i := 7) scPowerParts.nd rfl (Or.inl rfl) (pe_op op_mulW (pv 3) (pv 4)))
      (pss_cons (ps_if (pt_cmp (pc_eqI (pe_op op_mod (pv 2) pe_int) pe_int))
      (pss_one (ps_ret (pe_tup (pa_cons (pv 6) (pa_cons (pv 7) pa_nil)))))
      pss_nil)
      (pss_one (ps_ret (pe_tup (pa_cons (pe_op op_fdiv (pe_op op_add (pe_op op_mulW (pv 0) (pv 6)) (pe_op op_mulW (pe_op op_sub (pe_op op_mulW (pv 0) (pv 0)) (pe_op op_mulW pe_int (pv 1))) (pv 7))) pe_int) (pa_cons (pe_op op_fdiv (pe_op op_add (pe_op op_mulW (pv 0) (pv 7)) (pv 6)) pe_int) pa_nil))))))))))), ?_⟩
    repeat' (first
      | with_reducible apply R.var
      | ((with_reducible apply R.isEq); exact rfl)
      | with_reducible apply R.op
      | with_reducible apply R.i2
      | with_reducible apply R.i0
      | with_reducible apply R.con
      | with_reducible apply R.cons
      | with_reducible apply R.nil
      | with_reducible apply R.gcons
      | with_reducible apply R.gname
      | ((with_reducible apply R.ixT); (focus ((repeat' (first | with_reducible assumption | with_reducible apply hU | ((with_reducible apply SqT.of); with_reducible assumption) | ((with_reducible apply same_seqT); with_reducible assumption) | ((with_reducible apply kp_seqT); with_reducible assumption) | ((with_reducible apply Dw.same); with_reducible assumption))); done)); exact rfl)
      | ((with_reducible apply R.ixL); (focus ((repeat' (first | with_reducible assumption | ((with_reducible apply SqL.of); with_reducible assumption) | ((with_reducible apply Same.seq); with_reducible assumption) | ((with_reducible apply Kp.seqL); with_reducible assumption) | ((with_reducible apply fresh_ne); with_reducible assumption) | ((with_reducible apply Dw.same); with_reducible assumption))); done)); exact rfl)
      | with_reducible assumption
      | with_reducible apply Bd.mulW
      | with_reducible apply Bd.mul
      | with_reducible apply Bd.add
      | with_reducible apply Bd.sub
      | ((with_reducible apply Bd.l8); exact eq_true (by decide))
      | ((with_reducible apply Bd.lit); exact eq_true (by decide))
      | with_reducible apply Bd.neg
      | with_reducible apply Bd.div
      | ((with_reducible apply Bd.om); omega)
      | ((with_reducible apply R.isLe); first | decide | omega)
      | with_reducible apply R.un
      | with_reducible apply R.u1
      | with_reducible apply R.tup
      | with_reducible apply R.lst
      | with_reducible apply R.call
      | with_reducible apply R.callB
      | with_reducible apply R.gtup
      | with_reducible apply R.gnil
      | with_reducible apply R.seq
      | with_reducible apply R.asg
      | with_reducible apply R.ret
      | with_reducible apply R.next
      | with_reducible apply R.drop
      | with_reducible apply R.par
      | with_reducible apply R.par2
      | with_reducible apply R.ifs
      | with_reducible apply R.tif
      | with_reducible apply R.test
      | with_reducible apply R.tb'
      | with_reducible apply R.isbl
      | with_reducible apply R.cmp
      | with_reducible apply R.t2i
      | with_reducible apply R.intp
      | with_reducible apply R.and
      | with_reducible apply R.or
      | with_reducible apply R.not
      | with_reducible apply R.andV
      | with_reducible apply R.orV
      | with_reducible apply R.notV
      | with_reducible apply R.chain
      | with_reducible apply R.tupL
      | with_reducible apply R.lstL
      | with_reducible apply R.cat
      | with_reducible apply R.isiT
      | with_reducible apply R.isiTup
      | with_reducible apply R.isiLst
      | with_reducible apply R.nwT
      | with_reducible apply R.nwL
      | ((with_reducible apply R.mt); intro HN tn sn nn ht)
      | ((with_reducible apply R.ml); intro HN tn sn nn ht)
      | ((with_reducible apply R.ne4); focus ((repeat' (first | with_reducible assumption | with_reducible apply hU | ((with_reducible apply SqT.of); with_reducible assumption) | ((with_reducible apply same_seqT); with_reducible assumption) | ((with_reducible apply kp_seqT); with_reducible assumption) | ((with_reducible apply Dw.same); with_reducible assumption))); done))
      | ((with_reducible apply R.ne3); focus ((repeat' (first | with_reducible assumption | with_reducible apply hU | ((with_reducible apply SqT.of); with_reducible assumption) | ((with_reducible apply same_seqT); with_reducible assumption) | ((with_reducible apply kp_seqT); with_reducible assumption) | ((with_reducible apply Dw.same); with_reducible assumption))); done))
      | ((with_reducible apply R.ne2); focus ((repeat' (first | with_reducible assumption | with_reducible apply hU | ((with_reducible apply SqT.of); with_reducible assumption) | ((with_reducible apply same_seqT); with_reducible assumption) | ((with_reducible apply kp_seqT); with_reducible assumption) | ((with_reducible apply Dw.same); with_reducible assumption))); done))
      | ((with_reducible apply R.eq4); focus ((repeat' (first | with_reducible assumption | with_reducible apply hU | ((with_reducible apply SqT.of); with_reducible assumption) | ((with_reducible apply same_seqT); with_reducible assumption) | ((with_reducible apply kp_seqT); with_reducible assumption) | ((with_reducible apply Dw.same); with_reducible assumption))); done))
      | ((with_reducible apply R.eq3); focus ((repeat' (first | with_reducible assumption | with_reducible apply hU | ((with_reducible apply SqT.of); with_reducible assumption) | ((with_reducible apply same_seqT); with_reducible assumption) | ((with_reducible apply kp_seqT); with_reducible assumption) | ((with_reducible apply Dw.same); with_reducible assumption))); done))
      | ((with_reducible apply R.eq2); focus ((repeat' (first | with_reducible assumption | with_reducible apply hU | ((with_reducible apply SqT.of); with_reducible assumption) | ((with_reducible apply same_seqT); with_reducible assumption) | ((with_reducible apply kp_seqT); with_reducible assumption) | ((with_reducible apply Dw.same); with_reducible assumption))); done))
      | with_reducible apply uLawNext
      | with_reducible apply uLawWide
      | with_reducible apply uLawChange
      | with_reducible apply uMultiply
      | with_reducible apply uDeterminant
      | with_reducible apply uApply
      | with_reducible apply uNegative
      | with_reducible apply uLawAt
      | with_reducible apply uLawMul
      | with_reducible apply uInverse
      | ((with_reducible apply R.nw); intro HN tn sn ht)
      | with_reducible apply iteT
      | with_reducible apply iteF
      | ((with_reducible apply SqT.of); with_reducible assumption)
      | ((with_reducible apply SqL.of); with_reducible assumption)
      | ((with_reducible apply same_seqT); with_reducible assumption)
      | ((with_reducible apply sameB); with_reducible assumption)
      | ((with_reducible apply same_at); with_reducible assumption)
      | ((with_reducible apply kp_seqT); with_reducible assumption)
      | ((with_reducible apply Same.seq); with_reducible assumption)
      | ((with_reducible apply Kp.seqL); with_reducible assumption)
      | ((with_reducible apply fresh_ne); with_reducible assumption)
      | ((with_reducible apply Dw.same); with_reducible assumption)
      | ((with_reducible apply R.isEq); exact eq_true (by first | decide | omega))
      | ((with_reducible apply R.isLt); first | decide | omega)
      | ((with_reducible apply R.isLtI); first | decide | omega)
      | ((with_reducible apply R.isLeI); first | decide | omega)
      | ((with_reducible apply R.cdiv); exact rfl)
      | ((with_reducible apply R.cpow); exact rfl)
      | with_reducible apply hU
      | ((with_reducible apply wayNF); first | exact rfl | exact ⟨rfl, rfl⟩ | exact ⟨rfl, rfl, rfl⟩ | exact ⟨rfl, rfl, rfl, rfl⟩)
      | with_reducible apply R.forE
      | with_reducible apply R.rng1
      | with_reducible apply R.rng2
      | with_reducible apply R.rg1
      | with_reducible apply R.rg2
      | with_reducible apply R.lcE
      | with_reducible apply R.itup
      | with_reducible apply R.ilst
      )
    refine way2 (fun z => ?_) (fun z => ?_)
    · skip
      repeat' (first
        | with_reducible apply R.var
        | ((with_reducible apply R.isEq); exact rfl)
        | with_reducible apply R.op
        | with_reducible apply R.i2
        | with_reducible apply R.i0
        | with_reducible apply R.con
        | with_reducible apply R.cons
        | with_reducible apply R.nil
        | with_reducible apply R.gcons
        | with_reducible apply R.gname
        | ((with_reducible apply R.ixT); (focus ((repeat' (first | with_reducible assumption | with_reducible apply hU | ((with_reducible apply SqT.of); with_reducible assumption) | ((with_reducible apply same_seqT); with_reducible assumption) | ((with_reducible apply kp_seqT); with_reducible assumption) | ((with_reducible apply Dw.same); with_reducible assumption))); done)); exact rfl)
        | ((with_reducible apply R.ixL); (focus ((repeat' (first | with_reducible assumption | ((with_reducible apply SqL.of); with_reducible assumption) | ((with_reducible apply Same.seq); with_reducible assumption) | ((with_reducible apply Kp.seqL); with_reducible assumption) | ((with_reducible apply fresh_ne); with_reducible assumption) | ((with_reducible apply Dw.same); with_reducible assumption))); done)); exact rfl)
        | with_reducible assumption
        | with_reducible apply Bd.mulW
        | with_reducible apply Bd.mul
        | with_reducible apply Bd.add
        | with_reducible apply Bd.sub
        | ((with_reducible apply Bd.l8); exact eq_true (by decide))
        | ((with_reducible apply Bd.lit); exact eq_true (by decide))
        | with_reducible apply Bd.neg
        | with_reducible apply Bd.div
        | ((with_reducible apply Bd.om); omega)
        | ((with_reducible apply R.isLe); first | decide | omega)
        | with_reducible apply R.un
        | with_reducible apply R.u1
        | with_reducible apply R.tup
        | with_reducible apply R.lst
        | with_reducible apply R.call
        | with_reducible apply R.callB
        | with_reducible apply R.gtup
        | with_reducible apply R.gnil
        | with_reducible apply R.seq
        | with_reducible apply R.asg
        | with_reducible apply R.ret
        | with_reducible apply R.next
        | with_reducible apply R.drop
        | with_reducible apply R.par
        | with_reducible apply R.par2
        | with_reducible apply R.ifs
        | with_reducible apply R.tif
        | with_reducible apply R.test
        | with_reducible apply R.tb'
        | with_reducible apply R.isbl
        | with_reducible apply R.cmp
        | with_reducible apply R.t2i
        | with_reducible apply R.intp
        | with_reducible apply R.and
        | with_reducible apply R.or
        | with_reducible apply R.not
        | with_reducible apply R.andV
        | with_reducible apply R.orV
        | with_reducible apply R.notV
        | with_reducible apply R.chain
        | with_reducible apply R.tupL
        | with_reducible apply R.lstL
        | with_reducible apply R.cat
        | with_reducible apply R.isiT
        | with_reducible apply R.isiTup
        | with_reducible apply R.isiLst
        | with_reducible apply R.nwT
        | with_reducible apply R.nwL
        | ((with_reducible apply R.mt); intro HN tn sn nn ht)
        | ((with_reducible apply R.ml); intro HN tn sn nn ht)
        | ((with_reducible apply R.ne4); focus ((repeat' (first | with_reducible assumption | with_reducible apply hU | ((with_reducible apply SqT.of); with_reducible assumption) | ((with_reducible apply same_seqT); with_reducible assumption) | ((with_reducible apply kp_seqT); with_reducible assumption) | ((with_reducible apply Dw.same); with_reducible assumption))); done))
        | ((with_reducible apply R.ne3); focus ((repeat' (first | with_reducible assumption | with_reducible apply hU | ((with_reducible apply SqT.of); with_reducible assumption) | ((with_reducible apply same_seqT); with_reducible assumption) | ((with_reducible apply kp_seqT); with_reducible assumption) | ((with_reducible apply Dw.same); with_reducible assumption))); done))
        | ((with_reducible apply R.ne2); focus ((repeat' (first | with_reducible assumption | with_reducible apply hU | ((with_reducible apply SqT.of); with_reducible assumption) | ((with_reducible apply same_seqT); with_reducible assumption) | ((with_reducible apply kp_seqT); with_reducible assumption) | ((with_reducible apply Dw.same); with_reducible assumption))); done))
        | ((with_reducible apply R.eq4); focus ((repeat' (first | with_reducible assumption | with_reducible apply hU | ((with_reducible apply SqT.of); with_reducible assumption) | ((with_reducible apply same_seqT); with_reducible assumption) | ((with_reducible apply kp_seqT); with_reducible assumption) | ((with_reducible apply Dw.same); with_reducible assumption))); done))
        | ((with_reducible apply R.eq3); focus ((repeat' (first | with_reducible assumption | with_reducible apply hU | ((with_reducible apply SqT.of); with_reducible assumption) | ((with_reducible apply same_seqT); with_reducible assumption) | ((with_reducible apply kp_seqT); with_reducible assumption) | ((with_reducible apply Dw.same); with_reducible assumption))); done))
        | ((with_reducible apply R.eq2); focus ((repeat' (first | with_reducible assumption | with_reducible apply hU | ((with_reducible apply SqT.of); with_reducible assumption) | ((with_reducible apply same_seqT); with_reducible assumption) | ((with_reducible apply kp_seqT); with_reducible assumption) | ((with_reducible apply Dw.same); with_reducible assumption))); done))
        | with_reducible apply uLawNext
        | with_reducible apply uLawWide
        | with_reducible apply uLawChange
        | with_reducible apply uMultiply
        | with_reducible apply uDeterminant
        | with_reducible apply uApply
        | with_reducible apply uNegative
        | with_reducible apply uLawAt
        | with_reducible apply uLawMul
        | with_reducible apply uInverse
        | ((with_reducible apply R.nw); intro HN tn sn ht)
        | with_reducible apply iteT
        | with_reducible apply iteF
        | ((with_reducible apply SqT.of); with_reducible assumption)
        | ((with_reducible apply SqL.of); with_reducible assumption)
        | ((with_reducible apply same_seqT); with_reducible assumption)
        | ((with_reducible apply sameB); with_reducible assumption)
        | ((with_reducible apply same_at); with_reducible assumption)
        | ((with_reducible apply kp_seqT); with_reducible assumption)
        | ((with_reducible apply Same.seq); with_reducible assumption)
        | ((with_reducible apply Kp.seqL); with_reducible assumption)
        | ((with_reducible apply fresh_ne); with_reducible assumption)
        | ((with_reducible apply Dw.same); with_reducible assumption)
        | ((with_reducible apply R.isEq); exact eq_true (by first | decide | omega))
        | ((with_reducible apply R.isLt); first | decide | omega)
        | ((with_reducible apply R.isLtI); first | decide | omega)
        | ((with_reducible apply R.isLeI); first | decide | omega)
        | ((with_reducible apply R.cdiv); exact rfl)
        | ((with_reducible apply R.cpow); exact rfl)
        | with_reducible apply hU
        | ((with_reducible apply wayNF); first | exact rfl | exact ⟨rfl, rfl⟩ | exact ⟨rfl, rfl, rfl⟩ | exact ⟨rfl, rfl, rfl, rfl⟩)
        | with_reducible apply R.forE
        | with_reducible apply R.rng1
        | with_reducible apply R.rng2
        | with_reducible apply R.rg1
        | with_reducible apply R.rg2
        | with_reducible apply R.lcE
        | with_reducible apply R.itup
        | with_reducible apply R.ilst
        )
      subst z
      exact kk _ _ (by assumption) (by assumption)
    · skip
      repeat' (first
        | with_reducible apply R.var
        | ((with_reducible apply R.isEq); exact rfl)
        | with_reducible apply R.op
        | with_reducible apply R.i2
        | with_reducible apply R.i0
        | with_reducible apply R.con
        | with_reducible apply R.cons
        | with_reducible apply R.nil
        | with_reducible apply R.gcons
        | with_reducible apply R.gname
        | ((with_reducible apply R.ixT); (focus ((repeat' (first | with_reducible assumption | with_reducible apply hU | ((with_reducible apply SqT.of); with_reducible assumption) | ((with_reducible apply same_seqT); with_reducible assumption) | ((with_reducible apply kp_seqT); with_reducible assumption) | ((with_reducible apply Dw.same); with_reducible assumption))); done)); exact rfl)
        | ((with_reducible apply R.ixL); (focus ((repeat' (first | with_reducible assumption | ((with_reducible apply SqL.of); with_reducible assumption) | ((with_reducible apply Same.seq); with_reducible assumption) | ((with_reducible apply Kp.seqL); with_reducible assumption) | ((with_reducible apply fresh_ne); with_reducible assumption) | ((with_reducible apply Dw.same); with_reducible assumption))); done)); exact rfl)
        | with_reducible assumption
        | with_reducible apply Bd.mulW
        | with_reducible apply Bd.mul
        | with_reducible apply Bd.add
        | with_reducible apply Bd.sub
        | ((with_reducible apply Bd.l8); exact eq_true (by decide))
        | ((with_reducible apply Bd.lit); exact eq_true (by decide))
        | with_reducible apply Bd.neg
        | with_reducible apply Bd.div
        | ((with_reducible apply Bd.om); omega)
        | ((with_reducible apply R.isLe); first | decide | omega)
        | with_reducible apply R.un
        | with_reducible apply R.u1
        | with_reducible apply R.tup
        | with_reducible apply R.lst
        | with_reducible apply R.call
        | with_reducible apply R.callB
        | with_reducible apply R.gtup
        | with_reducible apply R.gnil
        | with_reducible apply R.seq
        | with_reducible apply R.asg
        | with_reducible apply R.ret
        | with_reducible apply R.next
        | with_reducible apply R.drop
        | with_reducible apply R.par
        | with_reducible apply R.par2
        | with_reducible apply R.ifs
        | with_reducible apply R.tif
        | with_reducible apply R.test
        | with_reducible apply R.tb'
        | with_reducible apply R.isbl
        | with_reducible apply R.cmp
        | with_reducible apply R.t2i
        | with_reducible apply R.intp
        | with_reducible apply R.and
        | with_reducible apply R.or
        | with_reducible apply R.not
        | with_reducible apply R.andV
        | with_reducible apply R.orV
        | with_reducible apply R.notV
        | with_reducible apply R.chain
        | with_reducible apply R.tupL
        | with_reducible apply R.lstL
        | with_reducible apply R.cat
        | with_reducible apply R.isiT
        | with_reducible apply R.isiTup
        | with_reducible apply R.isiLst
        | with_reducible apply R.nwT
        | with_reducible apply R.nwL
        | ((with_reducible apply R.mt); intro HN tn sn nn ht)
        | ((with_reducible apply R.ml); intro HN tn sn nn ht)
        | ((with_reducible apply R.ne4); focus ((repeat' (first | with_reducible assumption | with_reducible apply hU | ((with_reducible apply SqT.of); with_reducible assumption) | ((with_reducible apply same_seqT); with_reducible assumption) | ((with_reducible apply kp_seqT); with_reducible assumption) | ((with_reducible apply Dw.same); with_reducible assumption))); done))
        | ((with_reducible apply R.ne3); focus ((repeat' (first | with_reducible assumption | with_reducible apply hU | ((with_reducible apply SqT.of); with_reducible assumption) | ((with_reducible apply same_seqT); with_reducible assumption) | ((with_reducible apply kp_seqT); with_reducible assumption) | ((with_reducible apply Dw.same); with_reducible assumption))); done))
        | ((with_reducible apply R.ne2); focus ((repeat' (first | with_reducible assumption | with_reducible apply hU | ((with_reducible apply SqT.of); with_reducible assumption) | ((with_reducible apply same_seqT); with_reducible assumption) | ((with_reducible apply kp_seqT); with_reducible assumption) | ((with_reducible apply Dw.same); with_reducible assumption))); done))
        | ((with_reducible apply R.eq4); focus ((repeat' (first | with_reducible assumption | with_reducible apply hU | ((with_reducible apply SqT.of); with_reducible assumption) | ((with_reducible apply same_seqT); with_reducible assumption) | ((with_reducible apply kp_seqT); with_reducible assumption) | ((with_reducible apply Dw.same); with_reducible assumption))); done))
        | ((with_reducible apply R.eq3); focus ((repeat' (first | with_reducible assumption | with_reducible apply hU | ((with_reducible apply SqT.of); with_reducible assumption) | ((with_reducible apply same_seqT); with_reducible assumption) | ((with_reducible apply kp_seqT); with_reducible assumption) | ((with_reducible apply Dw.same); with_reducible assumption))); done))
        | ((with_reducible apply R.eq2); focus ((repeat' (first | with_reducible assumption | with_reducible apply hU | ((with_reducible apply SqT.of); with_reducible assumption) | ((with_reducible apply same_seqT); with_reducible assumption) | ((with_reducible apply kp_seqT); with_reducible assumption) | ((with_reducible apply Dw.same); with_reducible assumption))); done))
        | with_reducible apply uLawNext
        | with_reducible apply uLawWide
        | with_reducible apply uLawChange
        | with_reducible apply uMultiply
        | with_reducible apply uDeterminant
        | with_reducible apply uApply
        | with_reducible apply uNegative
        | with_reducible apply uLawAt
        | with_reducible apply uLawMul
        | with_reducible apply uInverse
        | ((with_reducible apply R.nw); intro HN tn sn ht)
        | with_reducible apply iteT
        | with_reducible apply iteF
        | ((with_reducible apply SqT.of); with_reducible assumption)
        | ((with_reducible apply SqL.of); with_reducible assumption)
        | ((with_reducible apply same_seqT); with_reducible assumption)
        | ((with_reducible apply sameB); with_reducible assumption)
        | ((with_reducible apply same_at); with_reducible assumption)
        | ((with_reducible apply kp_seqT); with_reducible assumption)
        | ((with_reducible apply Same.seq); with_reducible assumption)
        | ((with_reducible apply Kp.seqL); with_reducible assumption)
        | ((with_reducible apply fresh_ne); with_reducible assumption)
        | ((with_reducible apply Dw.same); with_reducible assumption)
        | ((with_reducible apply R.isEq); exact eq_true (by first | decide | omega))
        | ((with_reducible apply R.isLt); first | decide | omega)
        | ((with_reducible apply R.isLtI); first | decide | omega)
        | ((with_reducible apply R.isLeI); first | decide | omega)
        | ((with_reducible apply R.cdiv); exact rfl)
        | ((with_reducible apply R.cpow); exact rfl)
        | with_reducible apply hU
        | ((with_reducible apply wayNF); first | exact rfl | exact ⟨rfl, rfl⟩ | exact ⟨rfl, rfl, rfl⟩ | exact ⟨rfl, rfl, rfl, rfl⟩)
        | with_reducible apply R.forE
        | with_reducible apply R.rng1
        | with_reducible apply R.rng2
        | with_reducible apply R.rg1
        | with_reducible apply R.rg2
        | with_reducible apply R.lcE
        | with_reducible apply R.itup
        | with_reducible apply R.ilst
        )
      have hd : ∃ f, d = f + 1 := by
        cases d with
        | zero =>
          exfalso
          have : many.toNat < 1 := hm
          omega
        | succ f => exact ⟨f, rfl⟩
      obtain ⟨f, rfl⟩ := hd
      have hm2 : (many / 2).toNat < 2 ^ f := by
        rw [Nat.pow_succ] at hm
        omega
      have hle : (N + 2) * ((many / 2).toNat + 1) ≤ 80000 := Nat.le_trans (Nat.mul_le_mul_left _ (by omega)) hN
      refine ⟨t, e, many / 2, N, rfl, by omega, ⟨f, rfl, hm2⟩, he, bt, hle, ?_⟩
      obtain ⟨bU, bV⟩ := luc_bd bt he (many / 2).toNat
      have dbl := luc_dbl t e (many / 2).toNat
      have odd := luc_odd t e (2 * (many / 2).toNat)
      have sg := sgn_pow he (many / 2).toNat
      have be : Bd 1 e := bd1 he
      have hN2 : N ≤ 40000 := by
        have := Nat.mul_le_mul_left (N + 2) (show 2 ≤ many.toNat + 1 by omega)
        omega
      generalize hh : (many / 2).toNat = h at *
      have bp : Bd 64 (e ^ h) := by
        rcases Nat.mod_two_eq_zero_or_one h with z | z
        · rw [sg.2 z]
          exact Bd.lit (x := 1) (eq_true (by decide))
        · rw [sg.1 z]
          exact be.mono (by decide)
      generalize (N + 2) * (h + 1) = B at *
      generalize lucV t e h = v at *
      generalize lucU t e h = u at *
      repeat' (first
        | with_reducible apply R.var
        | ((with_reducible apply R.isEq); exact rfl)
        | with_reducible apply R.op
        | with_reducible apply R.i2
        | with_reducible apply R.i0
        | with_reducible apply R.con
        | with_reducible apply R.cons
        | with_reducible apply R.nil
        | with_reducible apply R.gcons
        | with_reducible apply R.gname
        | ((with_reducible apply R.ixT); (focus ((repeat' (first | with_reducible assumption | with_reducible apply hU | ((with_reducible apply SqT.of); with_reducible assumption) | ((with_reducible apply same_seqT); with_reducible assumption) | ((with_reducible apply kp_seqT); with_reducible assumption) | ((with_reducible apply Dw.same); with_reducible assumption))); done)); exact rfl)
        | ((with_reducible apply R.ixL); (focus ((repeat' (first | with_reducible assumption | ((with_reducible apply SqL.of); with_reducible assumption) | ((with_reducible apply Same.seq); with_reducible assumption) | ((with_reducible apply Kp.seqL); with_reducible assumption) | ((with_reducible apply fresh_ne); with_reducible assumption) | ((with_reducible apply Dw.same); with_reducible assumption))); done)); exact rfl)
        | with_reducible assumption
        | with_reducible apply Bd.mulW
        | with_reducible apply Bd.mul
        | with_reducible apply Bd.add
        | with_reducible apply Bd.sub
        | ((with_reducible apply Bd.l8); exact eq_true (by decide))
        | ((with_reducible apply Bd.lit); exact eq_true (by decide))
        | with_reducible apply Bd.neg
        | with_reducible apply Bd.div
        | ((with_reducible apply Bd.om); omega)
        | ((with_reducible apply R.isLe); first | decide | omega)
        | with_reducible apply R.un
        | with_reducible apply R.u1
        | with_reducible apply R.tup
        | with_reducible apply R.lst
        | with_reducible apply R.call
        | with_reducible apply R.callB
        | with_reducible apply R.gtup
        | with_reducible apply R.gnil
        | with_reducible apply R.seq
        | with_reducible apply R.asg
        | with_reducible apply R.ret
        | with_reducible apply R.next
        | with_reducible apply R.drop
        | with_reducible apply R.par
        | with_reducible apply R.par2
        | with_reducible apply R.ifs
        | with_reducible apply R.tif
        | with_reducible apply R.test
        | with_reducible apply R.tb'
        | with_reducible apply R.isbl
        | with_reducible apply R.cmp
        | with_reducible apply R.t2i
        | with_reducible apply R.intp
        | with_reducible apply R.and
        | with_reducible apply R.or
        | with_reducible apply R.not
        | with_reducible apply R.andV
        | with_reducible apply R.orV
        | with_reducible apply R.notV
        | with_reducible apply R.chain
        | with_reducible apply R.tupL
        | with_reducible apply R.lstL
        | with_reducible apply R.cat
        | with_reducible apply R.isiT
        | with_reducible apply R.isiTup
        | with_reducible apply R.isiLst
        | with_reducible apply R.nwT
        | with_reducible apply R.nwL
        | ((with_reducible apply R.mt); intro HN tn sn nn ht)
        | ((with_reducible apply R.ml); intro HN tn sn nn ht)
        | ((with_reducible apply R.ne4); focus ((repeat' (first | with_reducible assumption | with_reducible apply hU | ((with_reducible apply SqT.of); with_reducible assumption) | ((with_reducible apply same_seqT); with_reducible assumption) | ((with_reducible apply kp_seqT); with_reducible assumption) | ((with_reducible apply Dw.same); with_reducible assumption))); done))
        | ((with_reducible apply R.ne3); focus ((repeat' (first | with_reducible assumption | with_reducible apply hU | ((with_reducible apply SqT.of); with_reducible assumption) | ((with_reducible apply same_seqT); with_reducible assumption) | ((with_reducible apply kp_seqT); with_reducible assumption) | ((with_reducible apply Dw.same); with_reducible assumption))); done))
        | ((with_reducible apply R.ne2); focus ((repeat' (first | with_reducible assumption | with_reducible apply hU | ((with_reducible apply SqT.of); with_reducible assumption) | ((with_reducible apply same_seqT); with_reducible assumption) | ((with_reducible apply kp_seqT); with_reducible assumption) | ((with_reducible apply Dw.same); with_reducible assumption))); done))
        | ((with_reducible apply R.eq4); focus ((repeat' (first | with_reducible assumption | with_reducible apply hU | ((with_reducible apply SqT.of); with_reducible assumption) | ((with_reducible apply same_seqT); with_reducible assumption) | ((with_reducible apply kp_seqT); with_reducible assumption) | ((with_reducible apply Dw.same); with_reducible assumption))); done))
        | ((with_reducible apply R.eq3); focus ((repeat' (first | with_reducible assumption | with_reducible apply hU | ((with_reducible apply SqT.of); with_reducible assumption) | ((with_reducible apply same_seqT); with_reducible assumption) | ((with_reducible apply kp_seqT); with_reducible assumption) | ((with_reducible apply Dw.same); with_reducible assumption))); done))
        | ((with_reducible apply R.eq2); focus ((repeat' (first | with_reducible assumption | with_reducible apply hU | ((with_reducible apply SqT.of); with_reducible assumption) | ((with_reducible apply same_seqT); with_reducible assumption) | ((with_reducible apply kp_seqT); with_reducible assumption) | ((with_reducible apply Dw.same); with_reducible assumption))); done))
        | with_reducible apply uLawNext
        | with_reducible apply uLawWide
        | with_reducible apply uLawChange
        | with_reducible apply uMultiply
        | with_reducible apply uDeterminant
        | with_reducible apply uApply
        | with_reducible apply uNegative
        | with_reducible apply uLawAt
        | with_reducible apply uLawMul
        | with_reducible apply uInverse
        | ((with_reducible apply R.nw); intro HN tn sn ht)
        | with_reducible apply iteT
        | with_reducible apply iteF
        | ((with_reducible apply SqT.of); with_reducible assumption)
        | ((with_reducible apply SqL.of); with_reducible assumption)
        | ((with_reducible apply same_seqT); with_reducible assumption)
        | ((with_reducible apply sameB); with_reducible assumption)
        | ((with_reducible apply same_at); with_reducible assumption)
        | ((with_reducible apply kp_seqT); with_reducible assumption)
        | ((with_reducible apply Same.seq); with_reducible assumption)
        | ((with_reducible apply Kp.seqL); with_reducible assumption)
        | ((with_reducible apply fresh_ne); with_reducible assumption)
        | ((with_reducible apply Dw.same); with_reducible assumption)
        | ((with_reducible apply R.isEq); exact eq_true (by first | decide | omega))
        | ((with_reducible apply R.isLt); first | decide | omega)
        | ((with_reducible apply R.isLtI); first | decide | omega)
        | ((with_reducible apply R.isLeI); first | decide | omega)
        | ((with_reducible apply R.cdiv); exact rfl)
        | ((with_reducible apply R.cpow); exact rfl)
        | with_reducible apply hU
        | ((with_reducible apply wayNF); first | exact rfl | exact ⟨rfl, rfl⟩ | exact ⟨rfl, rfl, rfl⟩ | exact ⟨rfl, rfl, rfl, rfl⟩)
        | with_reducible apply R.forE
        | with_reducible apply R.rng1
        | with_reducible apply R.rng2
        | with_reducible apply R.rg1
        | with_reducible apply R.rg2
        | with_reducible apply R.lcE
        | with_reducible apply R.itup
        | with_reducible apply R.ilst
        )
      refine iteV (v := .int (e ^ h)) (fun z2 => ?_) (fun z2 => ?_) ?_
      · rw [sg.1 (by omega)]
        rfl
      · rw [sg.2 (by omega)]
      repeat' (first
        | with_reducible apply R.var
        | ((with_reducible apply R.isEq); exact rfl)
        | with_reducible apply R.op
        | with_reducible apply R.i2
        | with_reducible apply R.i0
        | with_reducible apply R.con
        | with_reducible apply R.cons
        | with_reducible apply R.nil
        | with_reducible apply R.gcons
        | with_reducible apply R.gname
        | ((with_reducible apply R.ixT); (focus ((repeat' (first | with_reducible assumption | with_reducible apply hU | ((with_reducible apply SqT.of); with_reducible assumption) | ((with_reducible apply same_seqT); with_reducible assumption) | ((with_reducible apply kp_seqT); with_reducible assumption) | ((with_reducible apply Dw.same); with_reducible assumption))); done)); exact rfl)
        | ((with_reducible apply R.ixL); (focus ((repeat' (first | with_reducible assumption | ((with_reducible apply SqL.of); with_reducible assumption) | ((with_reducible apply Same.seq); with_reducible assumption) | ((with_reducible apply Kp.seqL); with_reducible assumption) | ((with_reducible apply fresh_ne); with_reducible assumption) | ((with_reducible apply Dw.same); with_reducible assumption))); done)); exact rfl)
        | with_reducible assumption
        | with_reducible apply Bd.mulW
        | with_reducible apply Bd.mul
        | with_reducible apply Bd.add
        | with_reducible apply Bd.sub
        | ((with_reducible apply Bd.l8); exact eq_true (by decide))
        | ((with_reducible apply Bd.lit); exact eq_true (by decide))
        | with_reducible apply Bd.neg
        | with_reducible apply Bd.div
        | ((with_reducible apply Bd.om); omega)
        | ((with_reducible apply R.isLe); first | decide | omega)
        | with_reducible apply R.un
        | with_reducible apply R.u1
        | with_reducible apply R.tup
        | with_reducible apply R.lst
        | with_reducible apply R.call
        | with_reducible apply R.callB
        | with_reducible apply R.gtup
        | with_reducible apply R.gnil
        | with_reducible apply R.seq
        | with_reducible apply R.asg
        | with_reducible apply R.ret
        | with_reducible apply R.next
        | with_reducible apply R.drop
        | with_reducible apply R.par
        | with_reducible apply R.par2
        | with_reducible apply R.ifs
        | with_reducible apply R.tif
        | with_reducible apply R.test
        | with_reducible apply R.tb'
        | with_reducible apply R.isbl
        | with_reducible apply R.cmp
        | with_reducible apply R.t2i
        | with_reducible apply R.intp
        | with_reducible apply R.and
        | with_reducible apply R.or
        | with_reducible apply R.not
        | with_reducible apply R.andV
        | with_reducible apply R.orV
        | with_reducible apply R.notV
        | with_reducible apply R.chain
        | with_reducible apply R.tupL
        | with_reducible apply R.lstL
        | with_reducible apply R.cat
        | with_reducible apply R.isiT
        | with_reducible apply R.isiTup
        | with_reducible apply R.isiLst
        | with_reducible apply R.nwT
        | with_reducible apply R.nwL
        | ((with_reducible apply R.mt); intro HN tn sn nn ht)
        | ((with_reducible apply R.ml); intro HN tn sn nn ht)
        | ((with_reducible apply R.ne4); focus ((repeat' (first | with_reducible assumption | with_reducible apply hU | ((with_reducible apply SqT.of); with_reducible assumption) | ((with_reducible apply same_seqT); with_reducible assumption) | ((with_reducible apply kp_seqT); with_reducible assumption) | ((with_reducible apply Dw.same); with_reducible assumption))); done))
        | ((with_reducible apply R.ne3); focus ((repeat' (first | with_reducible assumption | with_reducible apply hU | ((with_reducible apply SqT.of); with_reducible assumption) | ((with_reducible apply same_seqT); with_reducible assumption) | ((with_reducible apply kp_seqT); with_reducible assumption) | ((with_reducible apply Dw.same); with_reducible assumption))); done))
        | ((with_reducible apply R.ne2); focus ((repeat' (first | with_reducible assumption | with_reducible apply hU | ((with_reducible apply SqT.of); with_reducible assumption) | ((with_reducible apply same_seqT); with_reducible assumption) | ((with_reducible apply kp_seqT); with_reducible assumption) | ((with_reducible apply Dw.same); with_reducible assumption))); done))
        | ((with_reducible apply R.eq4); focus ((repeat' (first | with_reducible assumption | with_reducible apply hU | ((with_reducible apply SqT.of); with_reducible assumption) | ((with_reducible apply same_seqT); with_reducible assumption) | ((with_reducible apply kp_seqT); with_reducible assumption) | ((with_reducible apply Dw.same); with_reducible assumption))); done))
        | ((with_reducible apply R.eq3); focus ((repeat' (first | with_reducible assumption | with_reducible apply hU | ((with_reducible apply SqT.of); with_reducible assumption) | ((with_reducible apply same_seqT); with_reducible assumption) | ((with_reducible apply kp_seqT); with_reducible assumption) | ((with_reducible apply Dw.same); with_reducible assumption))); done))
        | ((with_reducible apply R.eq2); focus ((repeat' (first | with_reducible assumption | with_reducible apply hU | ((with_reducible apply SqT.of); with_reducible assumption) | ((with_reducible apply same_seqT); with_reducible assumption) | ((with_reducible apply kp_seqT); with_reducible assumption) | ((with_reducible apply Dw.same); with_reducible assumption))); done))
        | with_reducible apply uLawNext
        | with_reducible apply uLawWide
        | with_reducible apply uLawChange
        | with_reducible apply uMultiply
        | with_reducible apply uDeterminant
        | with_reducible apply uApply
        | with_reducible apply uNegative
        | with_reducible apply uLawAt
        | with_reducible apply uLawMul
        | with_reducible apply uInverse
        | ((with_reducible apply R.nw); intro HN tn sn ht)
        | with_reducible apply iteT
        | with_reducible apply iteF
        | ((with_reducible apply SqT.of); with_reducible assumption)
        | ((with_reducible apply SqL.of); with_reducible assumption)
        | ((with_reducible apply same_seqT); with_reducible assumption)
        | ((with_reducible apply sameB); with_reducible assumption)
        | ((with_reducible apply same_at); with_reducible assumption)
        | ((with_reducible apply kp_seqT); with_reducible assumption)
        | ((with_reducible apply Same.seq); with_reducible assumption)
        | ((with_reducible apply Kp.seqL); with_reducible assumption)
        | ((with_reducible apply fresh_ne); with_reducible assumption)
        | ((with_reducible apply Dw.same); with_reducible assumption)
        | ((with_reducible apply R.isEq); exact eq_true (by first | decide | omega))
        | ((with_reducible apply R.isLt); first | decide | omega)
        | ((with_reducible apply R.isLtI); first | decide | omega)
        | ((with_reducible apply R.isLeI); first | decide | omega)
        | ((with_reducible apply R.cdiv); exact rfl)
        | ((with_reducible apply R.cpow); exact rfl)
        | with_reducible apply hU
        | ((with_reducible apply wayNF); first | exact rfl | exact ⟨rfl, rfl⟩ | exact ⟨rfl, rfl, rfl⟩ | exact ⟨rfl, rfl, rfl, rfl⟩)
        | with_reducible apply R.forE
        | with_reducible apply R.rng1
        | with_reducible apply R.rng2
        | with_reducible apply R.rg1
        | with_reducible apply R.rg2
        | with_reducible apply R.lcE
        | with_reducible apply R.itup
        | with_reducible apply R.ilst
        )
      refine way2 (fun z2 => ?_) (fun z2 => ?_)
      · skip
        repeat' (first
          | with_reducible apply R.var
          | ((with_reducible apply R.isEq); exact rfl)
          | with_reducible apply R.op
          | with_reducible apply R.i2
          | with_reducible apply R.i0
          | with_reducible apply R.con
          | with_reducible apply R.cons
          | with_reducible apply R.nil
          | with_reducible apply R.gcons
          | with_reducible apply R.gname
          | ((with_reducible apply R.ixT); (focus ((repeat' (first | with_reducible assumption | with_reducible apply hU | ((with_reducible apply SqT.of); with_reducible assumption) | ((with_reducible apply same_seqT); with_reducible assumption) | ((with_reducible apply kp_seqT); with_reducible assumption) | ((with_reducible apply Dw.same); with_reducible assumption))); done)); exact rfl)
          | ((with_reducible apply R.ixL); (focus ((repeat' (first | with_reducible assumption | ((with_reducible apply SqL.of); with_reducible assumption) | ((with_reducible apply Same.seq); with_reducible assumption) | ((with_reducible apply Kp.seqL); with_reducible assumption) | ((with_reducible apply fresh_ne); with_reducible assumption) | ((with_reducible apply Dw.same); with_reducible assumption))); done)); exact rfl)
          | with_reducible assumption
          | with_reducible apply Bd.mulW
          | with_reducible apply Bd.mul
          | with_reducible apply Bd.add
          | with_reducible apply Bd.sub
          | ((with_reducible apply Bd.l8); exact eq_true (by decide))
          | ((with_reducible apply Bd.lit); exact eq_true (by decide))
          | with_reducible apply Bd.neg
          | with_reducible apply Bd.div
          | ((with_reducible apply Bd.om); omega)
          | ((with_reducible apply R.isLe); first | decide | omega)
          | with_reducible apply R.un
          | with_reducible apply R.u1
          | with_reducible apply R.tup
          | with_reducible apply R.lst
          | with_reducible apply R.call
          | with_reducible apply R.callB
          | with_reducible apply R.gtup
          | with_reducible apply R.gnil
          | with_reducible apply R.seq
          | with_reducible apply R.asg
          | with_reducible apply R.ret
          | with_reducible apply R.next
          | with_reducible apply R.drop
          | with_reducible apply R.par
          | with_reducible apply R.par2
          | with_reducible apply R.ifs
          | with_reducible apply R.tif
          | with_reducible apply R.test
          | with_reducible apply R.tb'
          | with_reducible apply R.isbl
          | with_reducible apply R.cmp
          | with_reducible apply R.t2i
          | with_reducible apply R.intp
          | with_reducible apply R.and
          | with_reducible apply R.or
          | with_reducible apply R.not
          | with_reducible apply R.andV
          | with_reducible apply R.orV
          | with_reducible apply R.notV
          | with_reducible apply R.chain
          | with_reducible apply R.tupL
          | with_reducible apply R.lstL
          | with_reducible apply R.cat
          | with_reducible apply R.isiT
          | with_reducible apply R.isiTup
          | with_reducible apply R.isiLst
          | with_reducible apply R.nwT
          | with_reducible apply R.nwL
          | ((with_reducible apply R.mt); intro HN tn sn nn ht)
          | ((with_reducible apply R.ml); intro HN tn sn nn ht)
          | ((with_reducible apply R.ne4); focus ((repeat' (first | with_reducible assumption | with_reducible apply hU | ((with_reducible apply SqT.of); with_reducible assumption) | ((with_reducible apply same_seqT); with_reducible assumption) | ((with_reducible apply kp_seqT); with_reducible assumption) | ((with_reducible apply Dw.same); with_reducible assumption))); done))
          | ((with_reducible apply R.ne3); focus ((repeat' (first | with_reducible assumption | with_reducible apply hU | ((with_reducible apply SqT.of); with_reducible assumption) | ((with_reducible apply same_seqT); with_reducible assumption) | ((with_reducible apply kp_seqT); with_reducible assumption) | ((with_reducible apply Dw.same); with_reducible assumption))); done))
          | ((with_reducible apply R.ne2); focus ((repeat' (first | with_reducible assumption | with_reducible apply hU | ((with_reducible apply SqT.of); with_reducible assumption) | ((with_reducible apply same_seqT); with_reducible assumption) | ((with_reducible apply kp_seqT); with_reducible assumption) | ((with_reducible apply Dw.same); with_reducible assumption))); done))
          | ((with_reducible apply R.eq4); focus ((repeat' (first | with_reducible assumption | with_reducible apply hU | ((with_reducible apply SqT.of); with_reducible assumption) | ((with_reducible apply same_seqT); with_reducible assumption) | ((with_reducible apply kp_seqT); with_reducible assumption) | ((with_reducible apply Dw.same); with_reducible assumption))); done))
          | ((with_reducible apply R.eq3); focus ((repeat' (first | with_reducible assumption | with_reducible apply hU | ((with_reducible apply SqT.of); with_reducible assumption) | ((with_reducible apply same_seqT); with_reducible assumption) | ((with_reducible apply kp_seqT); with_reducible assumption) | ((with_reducible apply Dw.same); with_reducible assumption))); done))
          | ((with_reducible apply R.eq2); focus ((repeat' (first | with_reducible assumption | with_reducible apply hU | ((with_reducible apply SqT.of); with_reducible assumption) | ((with_reducible apply same_seqT); with_reducible assumption) | ((with_reducible apply kp_seqT); with_reducible assumption) | ((with_reducible apply Dw.same); with_reducible assumption))); done))
          | with_reducible apply uLawNext
          | with_reducible apply uLawWide
          | with_reducible apply uLawChange
          | with_reducible apply uMultiply
          | with_reducible apply uDeterminant
          | with_reducible apply uApply
          | with_reducible apply uNegative
          | with_reducible apply uLawAt
          | with_reducible apply uLawMul
          | with_reducible apply uInverse
          | ((with_reducible apply R.nw); intro HN tn sn ht)
          | with_reducible apply iteT
          | with_reducible apply iteF
          | ((with_reducible apply SqT.of); with_reducible assumption)
          | ((with_reducible apply SqL.of); with_reducible assumption)
          | ((with_reducible apply same_seqT); with_reducible assumption)
          | ((with_reducible apply sameB); with_reducible assumption)
          | ((with_reducible apply same_at); with_reducible assumption)
          | ((with_reducible apply kp_seqT); with_reducible assumption)
          | ((with_reducible apply Same.seq); with_reducible assumption)
          | ((with_reducible apply Kp.seqL); with_reducible assumption)
          | ((with_reducible apply fresh_ne); with_reducible assumption)
          | ((with_reducible apply Dw.same); with_reducible assumption)
          | ((with_reducible apply R.isEq); exact eq_true (by first | decide | omega))
          | ((with_reducible apply R.isLt); first | decide | omega)
          | ((with_reducible apply R.isLtI); first | decide | omega)
          | ((with_reducible apply R.isLeI); first | decide | omega)
          | ((with_reducible apply R.cdiv); exact rfl)
          | ((with_reducible apply R.cpow); exact rfl)
          | with_reducible apply hU
          | ((with_reducible apply wayNF); first | exact rfl | exact ⟨rfl, rfl⟩ | exact ⟨rfl, rfl, rfl⟩ | exact ⟨rfl, rfl, rfl, rfl⟩)
          | with_reducible apply R.forE
          | with_reducible apply R.rng1
          | with_reducible apply R.rng2
          | with_reducible apply R.rg1
          | with_reducible apply R.rg2
          | with_reducible apply R.lcE
          | with_reducible apply R.itup
          | with_reducible apply R.ilst
          )
        have e2 : many.toNat = 2 * h := by omega
        rw [e2, dbl.1, dbl.2] at kk
        refine kk _ _ ?_ (by assumption)
        (repeat' (first | with_reducible exact Same.refl _ | with_reducible assumption | ((with_reducible apply sameB); with_reducible assumption)))
      · skip
        repeat' (first
          | with_reducible apply R.var
          | ((with_reducible apply R.isEq); exact rfl)
          | with_reducible apply R.op
          | with_reducible apply R.i2
          | with_reducible apply R.i0
          | with_reducible apply R.con
          | with_reducible apply R.cons
          | with_reducible apply R.nil
          | with_reducible apply R.gcons
          | with_reducible apply R.gname
          | ((with_reducible apply R.ixT); (focus ((repeat' (first | with_reducible assumption | with_reducible apply hU | ((with_reducible apply SqT.of); with_reducible assumption) | ((with_reducible apply same_seqT); with_reducible assumption) | ((with_reducible apply kp_seqT); with_reducible assumption) | ((with_reducible apply Dw.same); with_reducible assumption))); done)); exact rfl)
          | ((with_reducible apply R.ixL); (focus ((repeat' (first | with_reducible assumption | ((with_reducible apply SqL.of); with_reducible assumption) | ((with_reducible apply Same.seq); with_reducible assumption) | ((with_reducible apply Kp.seqL); with_reducible assumption) | ((with_reducible apply fresh_ne); with_reducible assumption) | ((with_reducible apply Dw.same); with_reducible assumption))); done)); exact rfl)
          | with_reducible assumption
          | with_reducible apply Bd.mulW
          | with_reducible apply Bd.mul
          | with_reducible apply Bd.add
          | with_reducible apply Bd.sub
          | ((with_reducible apply Bd.l8); exact eq_true (by decide))
          | ((with_reducible apply Bd.lit); exact eq_true (by decide))
          | with_reducible apply Bd.neg
          | with_reducible apply Bd.div
          | ((with_reducible apply Bd.om); omega)
          | ((with_reducible apply R.isLe); first | decide | omega)
          | with_reducible apply R.un
          | with_reducible apply R.u1
          | with_reducible apply R.tup
          | with_reducible apply R.lst
          | with_reducible apply R.call
          | with_reducible apply R.callB
          | with_reducible apply R.gtup
          | with_reducible apply R.gnil
          | with_reducible apply R.seq
          | with_reducible apply R.asg
          | with_reducible apply R.ret
          | with_reducible apply R.next
          | with_reducible apply R.drop
          | with_reducible apply R.par
          | with_reducible apply R.par2
          | with_reducible apply R.ifs
          | with_reducible apply R.tif
          | with_reducible apply R.test
          | with_reducible apply R.tb'
          | with_reducible apply R.isbl
          | with_reducible apply R.cmp
          | with_reducible apply R.t2i
          | with_reducible apply R.intp
          | with_reducible apply R.and
          | with_reducible apply R.or
          | with_reducible apply R.not
          | with_reducible apply R.andV
          | with_reducible apply R.orV
          | with_reducible apply R.notV
          | with_reducible apply R.chain
          | with_reducible apply R.tupL
          | with_reducible apply R.lstL
          | with_reducible apply R.cat
          | with_reducible apply R.isiT
          | with_reducible apply R.isiTup
          | with_reducible apply R.isiLst
          | with_reducible apply R.nwT
          | with_reducible apply R.nwL
          | ((with_reducible apply R.mt); intro HN tn sn nn ht)
          | ((with_reducible apply R.ml); intro HN tn sn nn ht)
          | ((with_reducible apply R.ne4); focus ((repeat' (first | with_reducible assumption | with_reducible apply hU | ((with_reducible apply SqT.of); with_reducible assumption) | ((with_reducible apply same_seqT); with_reducible assumption) | ((with_reducible apply kp_seqT); with_reducible assumption) | ((with_reducible apply Dw.same); with_reducible assumption))); done))
          | ((with_reducible apply R.ne3); focus ((repeat' (first | with_reducible assumption | with_reducible apply hU | ((with_reducible apply SqT.of); with_reducible assumption) | ((with_reducible apply same_seqT); with_reducible assumption) | ((with_reducible apply kp_seqT); with_reducible assumption) | ((with_reducible apply Dw.same); with_reducible assumption))); done))
          | ((with_reducible apply R.ne2); focus ((repeat' (first | with_reducible assumption | with_reducible apply hU | ((with_reducible apply SqT.of); with_reducible assumption) | ((with_reducible apply same_seqT); with_reducible assumption) | ((with_reducible apply kp_seqT); with_reducible assumption) | ((with_reducible apply Dw.same); with_reducible assumption))); done))
          | ((with_reducible apply R.eq4); focus ((repeat' (first | with_reducible assumption | with_reducible apply hU | ((with_reducible apply SqT.of); with_reducible assumption) | ((with_reducible apply same_seqT); with_reducible assumption) | ((with_reducible apply kp_seqT); with_reducible assumption) | ((with_reducible apply Dw.same); with_reducible assumption))); done))
          | ((with_reducible apply R.eq3); focus ((repeat' (first | with_reducible assumption | with_reducible apply hU | ((with_reducible apply SqT.of); with_reducible assumption) | ((with_reducible apply same_seqT); with_reducible assumption) | ((with_reducible apply kp_seqT); with_reducible assumption) | ((with_reducible apply Dw.same); with_reducible assumption))); done))
          | ((with_reducible apply R.eq2); focus ((repeat' (first | with_reducible assumption | with_reducible apply hU | ((with_reducible apply SqT.of); with_reducible assumption) | ((with_reducible apply same_seqT); with_reducible assumption) | ((with_reducible apply kp_seqT); with_reducible assumption) | ((with_reducible apply Dw.same); with_reducible assumption))); done))
          | with_reducible apply uLawNext
          | with_reducible apply uLawWide
          | with_reducible apply uLawChange
          | with_reducible apply uMultiply
          | with_reducible apply uDeterminant
          | with_reducible apply uApply
          | with_reducible apply uNegative
          | with_reducible apply uLawAt
          | with_reducible apply uLawMul
          | with_reducible apply uInverse
          | ((with_reducible apply R.nw); intro HN tn sn ht)
          | with_reducible apply iteT
          | with_reducible apply iteF
          | ((with_reducible apply SqT.of); with_reducible assumption)
          | ((with_reducible apply SqL.of); with_reducible assumption)
          | ((with_reducible apply same_seqT); with_reducible assumption)
          | ((with_reducible apply sameB); with_reducible assumption)
          | ((with_reducible apply same_at); with_reducible assumption)
          | ((with_reducible apply kp_seqT); with_reducible assumption)
          | ((with_reducible apply Same.seq); with_reducible assumption)
          | ((with_reducible apply Kp.seqL); with_reducible assumption)
          | ((with_reducible apply fresh_ne); with_reducible assumption)
          | ((with_reducible apply Dw.same); with_reducible assumption)
          | ((with_reducible apply R.isEq); exact eq_true (by first | decide | omega))
          | ((with_reducible apply R.isLt); first | decide | omega)
          | ((with_reducible apply R.isLtI); first | decide | omega)
          | ((with_reducible apply R.isLeI); first | decide | omega)
          | ((with_reducible apply R.cdiv); exact rfl)
          | ((with_reducible apply R.cpow); exact rfl)
          | with_reducible apply hU
          | ((with_reducible apply wayNF); first | exact rfl | exact ⟨rfl, rfl⟩ | exact ⟨rfl, rfl, rfl⟩ | exact ⟨rfl, rfl, rfl, rfl⟩)
          | with_reducible apply R.forE
          | with_reducible apply R.rng1
          | with_reducible apply R.rng2
          | with_reducible apply R.rg1
          | with_reducible apply R.rg2
          | with_reducible apply R.lcE
          | with_reducible apply R.itup
          | with_reducible apply R.ilst
          )
        have e2 : many.toNat = 2 * h + 1 := by omega
        rw [e2, ← odd.1, ← odd.2, dbl.1, dbl.2] at kk
        refine kk _ _ ?_ (by assumption)
        (repeat' (first | with_reducible exact Same.refl _ | with_reducible assumption | ((with_reducible apply sameB); with_reducible assumption)))
def spPowerParts (K : PySem.W.Frag) : Sp := spPP 12 K
theorem okPowerParts (T : Txt K mg fa fd) : FnOk P w K mg base CX0 12 (fa 6) (fd 6) ["trace", "sign", "many"] (spPowerParts K) := okPP T 12
theorem uPowerParts {H : Hp} {Q : VK} {E : XK} {vs : List V} {t e many : Int} {N : Nat} (ev : vs = [.int t, .int e, .int many]) (h0 : 0 ≤ many) (h1 : many ≤ 1000) (he : e = 1 ∨ e = -1) (bt : Bd N t) (hN : N ≤ 70) (kk : R.Nw H [.int (lucV t e many.toNat), .int (lucU t e many.toNat)] Q) : spPowerParts K vs H Q E :=
  ⟨t, e, many, N, ev, h0, ⟨11, rfl, by show many.toNat < 2048; omega⟩, he, bt, Nat.le_trans (Nat.mul_le_mul (show N + 2 ≤ 72 by omega) (show many.toNat + 1 ≤ 1001 by omega)) (by decide), kk⟩

def tv (m : T4) : List V := [.int m.1, .int m.2.1, .int m.2.2.1, .int m.2.2.2]
def spRaised0 (K : PySem.W.Frag) : Sp := fun vs H Q _ => ∃ (am : Addr) (p q r s many : Int), vs = [.ref am, .int many] ∧ SqT K H am [.int p, .int q, .int r, .int s] ∧ 0 ≤ many ∧ many ≤ 1000 ∧ (mdet (p, q, r, s) = 1 ∨ mdet (p, q, r, s) = -1) ∧ Bd 60 p ∧ Bd 60 q ∧ Bd 60 r ∧ Bd 60 s ∧
  R.Nw H (tv (mpw (p, q, r, s) many.toNat)) Q
theorem uRaised0 {H : Hp} {Q : VK} {E : XK} {vs : List V} {am : Addr} {p q r s many : Int} (e : vs = [.ref am, .int many]) (hs : SqT K H am [.int p, .int q, .int r, .int s]) (h0 : 0 ≤ many) (h1 : many ≤ 1000) (hd : mdet (p, q, r, s) = 1 ∨ mdet (p, q, r, s) = -1) (bp : Bd 60 p) (bq : Bd 60 q) (br : Bd 60 r) (bs : Bd 60 s) (kk : R.Nw H (tv (mpw (p, q, r, s) many.toNat)) Q) : spRaised0 K vs H Q E :=
  ⟨am, p, q, r, s, many, e, hs, h0, h1, hd, bp, bq, br, bs, kk⟩
theorem okRaised0 (T : Txt K mg fa fd) : FnOk P w K mg base CX0 13 (fa 5) (fd 5) ["m", "many"] (spRaised0 K) := by
  refine T.F_raised.ok scRaised (fun vs H Q E h => ?_) (fun cdv A outer s' H vs Q E hr h => ?_)
  · obtain ⟨am, p, q, r, s, many, rfl, _⟩ := h
    rfl
  · obtain ⟨am, p, q, r, s, many, rfl, hs, h0, h1, hd, bp, bq, br, bs, kk⟩ := h
    refine ⟨_, (pss_cons (ps_if (pt_cmp (pc_lt (pv 1) pe_int))
      (pss_one ps_never)
      pss_nil)
      (pss_cons (ps_asg (pv 0) (pgT K 4 (by rfl) (pgs_cons (pg_name (i := 2) scRaised.nd rfl (Or.inl rfl)) (pgs_cons (pg_name (i := 3) scRaised.nd rfl (Or.inl rfl)) (pgs_cons (pg_name (i := 4) scRaised.nd rfl (Or.inl rfl)) (pgs_cons (pg_name (i := 5) scRaised.nd rfl (Or.inl rfl)) pgs_nil))))))
      (pss_cons (ps_asg (pe_call (sp := spPowerParts K) (okPowerParts T) (hr.mono (by decide)) (by rfl) T.G__power_parts T.F__power_parts.kp T.B__power_parts .nil pass0 (pa_cons (pe_op op_add (pv 2) (pv 5)) (pa_cons (pe_call (sp := spDeterminant K) (okDeterminant T) (hr.mono (by decide)) (by rfl) T.G_determinant T.F_determinant.kp T.B_determinant .nil pass0 (pa_cons (pv 0) pa_nil)) (pa_cons (pv 1) pa_nil)))) (pgT K 2 (by rfl) (pgs_cons (pg_name (i := 6) scRaised.nd rfl (Or.inl rfl)) (pgs_cons (pg_name (i := 7) scRaised.nd rfl (Or.inl rfl)) pgs_nil))))
      (pss_cons (ps_set (i := 8) scRaised.nd rfl (Or.inl rfl) (pe_op op_mulW (pv 7) (pe_op op_sub (pv 2) (pv 5))))
      (pss_one (ps_ret (pe_tup (pa_cons (pe_op op_fdiv (pe_op op_add (pv 6) (pv 8)) pe_int) (pa_cons (pe_op op_mulW (pv 7) (pv 3)) (pa_cons (pe_op op_mulW (pv 7) (pv 4)) (pa_cons (pe_op op_fdiv (pe_op op_sub (pv 6) (pv 8)) pe_int) pa_nil))))))))))), ?_⟩
    have hd' : p * s - q * r = 1 ∨ p * s - q * r = -1 := hd
    repeat' (first
      | with_reducible apply R.var
      | ((with_reducible apply R.isEq); exact rfl)
      | with_reducible apply R.op
      | with_reducible apply R.i2
      | with_reducible apply R.i0
      | with_reducible apply R.con
      | with_reducible apply R.cons
      | with_reducible apply R.nil
      | with_reducible apply R.gcons
      | with_reducible apply R.gname
      | ((with_reducible apply R.ixT); (focus ((repeat' (first | with_reducible assumption | with_reducible apply hU | ((with_reducible apply SqT.of); with_reducible assumption) | ((with_reducible apply same_seqT); with_reducible assumption) | ((with_reducible apply kp_seqT); with_reducible assumption) | ((with_reducible apply Dw.same); with_reducible assumption))); done)); exact rfl)
      | ((with_reducible apply R.ixL); (focus ((repeat' (first | with_reducible assumption | ((with_reducible apply SqL.of); with_reducible assumption) | ((with_reducible apply Same.seq); with_reducible assumption) | ((with_reducible apply Kp.seqL); with_reducible assumption) | ((with_reducible apply fresh_ne); with_reducible assumption) | ((with_reducible apply Dw.same); with_reducible assumption))); done)); exact rfl)
      | with_reducible assumption
      | with_reducible apply Bd.mulW
      | with_reducible apply Bd.mul
      | with_reducible apply Bd.add
      | with_reducible apply Bd.sub
      | ((with_reducible apply Bd.l8); exact eq_true (by decide))
      | ((with_reducible apply Bd.lit); exact eq_true (by decide))
      | with_reducible apply Bd.neg
      | with_reducible apply Bd.div
      | ((with_reducible apply Bd.om); omega)
      | ((with_reducible apply R.isLe); first | decide | omega)
      | with_reducible apply R.un
      | with_reducible apply R.u1
      | with_reducible apply R.tup
      | with_reducible apply R.lst
      | with_reducible apply R.call
      | with_reducible apply R.callB
      | with_reducible apply R.gtup
      | with_reducible apply R.gnil
      | with_reducible apply R.seq
      | with_reducible apply R.asg
      | with_reducible apply R.ret
      | with_reducible apply R.next
      | with_reducible apply R.drop
      | with_reducible apply R.par
      | with_reducible apply R.par2
      | with_reducible apply R.ifs
      | with_reducible apply R.tif
      | with_reducible apply R.test
      | with_reducible apply R.tb'
      | with_reducible apply R.isbl
      | with_reducible apply R.cmp
      | with_reducible apply R.t2i
      | with_reducible apply R.intp
      | with_reducible apply R.and
      | with_reducible apply R.or
      | with_reducible apply R.not
      | with_reducible apply R.andV
      | with_reducible apply R.orV
      | with_reducible apply R.notV
      | with_reducible apply R.chain
      | with_reducible apply R.tupL
      | with_reducible apply R.lstL
      | with_reducible apply R.cat
      | with_reducible apply R.isiT
      | with_reducible apply R.isiTup
      | with_reducible apply R.isiLst
      | with_reducible apply R.nwT
      | with_reducible apply R.nwL
      | ((with_reducible apply R.mt); intro HN tn sn nn ht)
      | ((with_reducible apply R.ml); intro HN tn sn nn ht)
      | ((with_reducible apply R.ne4); focus ((repeat' (first | with_reducible assumption | with_reducible apply hU | ((with_reducible apply SqT.of); with_reducible assumption) | ((with_reducible apply same_seqT); with_reducible assumption) | ((with_reducible apply kp_seqT); with_reducible assumption) | ((with_reducible apply Dw.same); with_reducible assumption))); done))
      | ((with_reducible apply R.ne3); focus ((repeat' (first | with_reducible assumption | with_reducible apply hU | ((with_reducible apply SqT.of); with_reducible assumption) | ((with_reducible apply same_seqT); with_reducible assumption) | ((with_reducible apply kp_seqT); with_reducible assumption) | ((with_reducible apply Dw.same); with_reducible assumption))); done))
      | ((with_reducible apply R.ne2); focus ((repeat' (first | with_reducible assumption | with_reducible apply hU | ((with_reducible apply SqT.of); with_reducible assumption) | ((with_reducible apply same_seqT); with_reducible assumption) | ((with_reducible apply kp_seqT); with_reducible assumption) | ((with_reducible apply Dw.same); with_reducible assumption))); done))
      | ((with_reducible apply R.eq4); focus ((repeat' (first | with_reducible assumption | with_reducible apply hU | ((with_reducible apply SqT.of); with_reducible assumption) | ((with_reducible apply same_seqT); with_reducible assumption) | ((with_reducible apply kp_seqT); with_reducible assumption) | ((with_reducible apply Dw.same); with_reducible assumption))); done))
      | ((with_reducible apply R.eq3); focus ((repeat' (first | with_reducible assumption | with_reducible apply hU | ((with_reducible apply SqT.of); with_reducible assumption) | ((with_reducible apply same_seqT); with_reducible assumption) | ((with_reducible apply kp_seqT); with_reducible assumption) | ((with_reducible apply Dw.same); with_reducible assumption))); done))
      | ((with_reducible apply R.eq2); focus ((repeat' (first | with_reducible assumption | with_reducible apply hU | ((with_reducible apply SqT.of); with_reducible assumption) | ((with_reducible apply same_seqT); with_reducible assumption) | ((with_reducible apply kp_seqT); with_reducible assumption) | ((with_reducible apply Dw.same); with_reducible assumption))); done))
      | with_reducible apply uLawNext
      | with_reducible apply uLawWide
      | with_reducible apply uLawChange
      | with_reducible apply uMultiply
      | with_reducible apply uDeterminant
      | with_reducible apply uApply
      | with_reducible apply uNegative
      | with_reducible apply uLawAt
      | with_reducible apply uLawMul
      | with_reducible apply uInverse
      | ((with_reducible apply R.nw); intro HN tn sn ht)
      | with_reducible apply iteT
      | with_reducible apply iteF
      | ((with_reducible apply SqT.of); with_reducible assumption)
      | ((with_reducible apply SqL.of); with_reducible assumption)
      | ((with_reducible apply same_seqT); with_reducible assumption)
      | ((with_reducible apply sameB); with_reducible assumption)
      | ((with_reducible apply same_at); with_reducible assumption)
      | ((with_reducible apply kp_seqT); with_reducible assumption)
      | ((with_reducible apply Same.seq); with_reducible assumption)
      | ((with_reducible apply Kp.seqL); with_reducible assumption)
      | ((with_reducible apply fresh_ne); with_reducible assumption)
      | ((with_reducible apply Dw.same); with_reducible assumption)
      | ((with_reducible apply R.isEq); exact eq_true (by first | decide | omega))
      | ((with_reducible apply R.isLt); first | decide | omega)
      | ((with_reducible apply R.isLtI); first | decide | omega)
      | ((with_reducible apply R.isLeI); first | decide | omega)
      | ((with_reducible apply R.cdiv); exact rfl)
      | ((with_reducible apply R.cpow); exact rfl)
      | with_reducible apply hU
      | ((with_reducible apply wayNF); first | exact rfl | exact ⟨rfl, rfl⟩ | exact ⟨rfl, rfl, rfl⟩ | exact ⟨rfl, rfl, rfl, rfl⟩)
      | with_reducible apply R.forE
      | with_reducible apply R.rng1
      | with_reducible apply R.rng2
      | with_reducible apply R.rg1
      | with_reducible apply R.rg2
      | with_reducible apply R.lcE
      | with_reducible apply R.itup
      | with_reducible apply R.ilst
      )
    refine wayF (by omega) ?_
    repeat' (first
      | with_reducible apply R.var
      | ((with_reducible apply R.isEq); exact rfl)
      | with_reducible apply R.op
      | with_reducible apply R.i2
      | with_reducible apply R.i0
      | with_reducible apply R.con
      | with_reducible apply R.cons
      | with_reducible apply R.nil
      | with_reducible apply R.gcons
      | with_reducible apply R.gname
      | ((with_reducible apply R.ixT); (focus ((repeat' (first | with_reducible assumption | with_reducible apply hU | ((with_reducible apply SqT.of); with_reducible assumption) | ((with_reducible apply same_seqT); with_reducible assumption) | ((with_reducible apply kp_seqT); with_reducible assumption) | ((with_reducible apply Dw.same); with_reducible assumption))); done)); exact rfl)
      | ((with_reducible apply R.ixL); (focus ((repeat' (first | with_reducible assumption | ((with_reducible apply SqL.of); with_reducible assumption) | ((with_reducible apply Same.seq); with_reducible assumption) | ((with_reducible apply Kp.seqL); with_reducible assumption) | ((with_reducible apply fresh_ne); with_reducible assumption) | ((with_reducible apply Dw.same); with_reducible assumption))); done)); exact rfl)
      | with_reducible assumption
      | with_reducible apply Bd.mulW
      | with_reducible apply Bd.mul
      | with_reducible apply Bd.add
      | with_reducible apply Bd.sub
      | ((with_reducible apply Bd.l8); exact eq_true (by decide))
      | ((with_reducible apply Bd.lit); exact eq_true (by decide))
      | with_reducible apply Bd.neg
      | with_reducible apply Bd.div
      | ((with_reducible apply Bd.om); omega)
      | ((with_reducible apply R.isLe); first | decide | omega)
      | with_reducible apply R.un
      | with_reducible apply R.u1
      | with_reducible apply R.tup
      | with_reducible apply R.lst
      | with_reducible apply R.call
      | with_reducible apply R.callB
      | with_reducible apply R.gtup
      | with_reducible apply R.gnil
      | with_reducible apply R.seq
      | with_reducible apply R.asg
      | with_reducible apply R.ret
      | with_reducible apply R.next
      | with_reducible apply R.drop
      | with_reducible apply R.par
      | with_reducible apply R.par2
      | with_reducible apply R.ifs
      | with_reducible apply R.tif
      | with_reducible apply R.test
      | with_reducible apply R.tb'
      | with_reducible apply R.isbl
      | with_reducible apply R.cmp
      | with_reducible apply R.t2i
      | with_reducible apply R.intp
      | with_reducible apply R.and
      | with_reducible apply R.or
      | with_reducible apply R.not
      | with_reducible apply R.andV
      | with_reducible apply R.orV
      | with_reducible apply R.notV
      | with_reducible apply R.chain
      | with_reducible apply R.tupL
      | with_reducible apply R.lstL
      | with_reducible apply R.cat
      | with_reducible apply R.isiT
      | with_reducible apply R.isiTup
      | with_reducible apply R.isiLst
      | with_reducible apply R.nwT
      | with_reducible apply R.nwL
      | ((with_reducible apply R.mt); intro HN tn sn nn ht)
      | ((with_reducible apply R.ml); intro HN tn sn nn ht)
      | ((with_reducible apply R.ne4); focus ((repeat' (first | with_reducible assumption | with_reducible apply hU | ((with_reducible apply SqT.of); with_reducible assumption) | ((with_reducible apply same_seqT); with_reducible assumption) | ((with_reducible apply kp_seqT); with_reducible assumption) | ((with_reducible apply Dw.same); with_reducible assumption))); done))
      | ((with_reducible apply R.ne3); focus ((repeat' (first | with_reducible assumption | with_reducible apply hU | ((with_reducible apply SqT.of); with_reducible assumption) | ((with_reducible apply same_seqT); with_reducible assumption) | ((with_reducible apply kp_seqT); with_reducible assumption) | ((with_reducible apply Dw.same); with_reducible assumption))); done))
      | ((with_reducible apply R.ne2); focus ((repeat' (first | with_reducible assumption | with_reducible apply hU | ((with_reducible apply SqT.of); with_reducible assumption) | ((with_reducible apply same_seqT); with_reducible assumption) | ((with_reducible apply kp_seqT); with_reducible assumption) | ((with_reducible apply Dw.same); with_reducible assumption))); done))
      | ((with_reducible apply R.eq4); focus ((repeat' (first | with_reducible assumption | with_reducible apply hU | ((with_reducible apply SqT.of); with_reducible assumption) | ((with_reducible apply same_seqT); with_reducible assumption) | ((with_reducible apply kp_seqT); with_reducible assumption) | ((with_reducible apply Dw.same); with_reducible assumption))); done))
      | ((with_reducible apply R.eq3); focus ((repeat' (first | with_reducible assumption | with_reducible apply hU | ((with_reducible apply SqT.of); with_reducible assumption) | ((with_reducible apply same_seqT); with_reducible assumption) | ((with_reducible apply kp_seqT); with_reducible assumption) | ((with_reducible apply Dw.same); with_reducible assumption))); done))
      | ((with_reducible apply R.eq2); focus ((repeat' (first | with_reducible assumption | with_reducible apply hU | ((with_reducible apply SqT.of); with_reducible assumption) | ((with_reducible apply same_seqT); with_reducible assumption) | ((with_reducible apply kp_seqT); with_reducible assumption) | ((with_reducible apply Dw.same); with_reducible assumption))); done))
      | with_reducible apply uLawNext
      | with_reducible apply uLawWide
      | with_reducible apply uLawChange
      | with_reducible apply uMultiply
      | with_reducible apply uDeterminant
      | with_reducible apply uApply
      | with_reducible apply uNegative
      | with_reducible apply uLawAt
      | with_reducible apply uLawMul
      | with_reducible apply uInverse
      | ((with_reducible apply R.nw); intro HN tn sn ht)
      | with_reducible apply iteT
      | with_reducible apply iteF
      | ((with_reducible apply SqT.of); with_reducible assumption)
      | ((with_reducible apply SqL.of); with_reducible assumption)
      | ((with_reducible apply same_seqT); with_reducible assumption)
      | ((with_reducible apply sameB); with_reducible assumption)
      | ((with_reducible apply same_at); with_reducible assumption)
      | ((with_reducible apply kp_seqT); with_reducible assumption)
      | ((with_reducible apply Same.seq); with_reducible assumption)
      | ((with_reducible apply Kp.seqL); with_reducible assumption)
      | ((with_reducible apply fresh_ne); with_reducible assumption)
      | ((with_reducible apply Dw.same); with_reducible assumption)
      | ((with_reducible apply R.isEq); exact eq_true (by first | decide | omega))
      | ((with_reducible apply R.isLt); first | decide | omega)
      | ((with_reducible apply R.isLtI); first | decide | omega)
      | ((with_reducible apply R.isLeI); first | decide | omega)
      | ((with_reducible apply R.cdiv); exact rfl)
      | ((with_reducible apply R.cpow); exact rfl)
      | with_reducible apply hU
      | ((with_reducible apply wayNF); first | exact rfl | exact ⟨rfl, rfl⟩ | exact ⟨rfl, rfl, rfl⟩ | exact ⟨rfl, rfl, rfl, rfl⟩)
      | with_reducible apply R.forE
      | with_reducible apply R.rng1
      | with_reducible apply R.rng2
      | with_reducible apply R.rg1
      | with_reducible apply R.rg2
      | with_reducible apply R.lcE
      | with_reducible apply R.itup
      | with_reducible apply R.ilst
      )
    refine uPowerParts (N := 61) rfl h0 h1 hd' (bp.add bs) (by decide) ?_
    have lb := luc_bd (bp.add bs) hd' many.toNat
    obtain ⟨m1, m2, m3, m4⟩ := mpw_luc (p, q, r, s) many.toNat
    dsimp only [mdet] at m1 m2 m3 m4
    have hB : (max 60 60 + 1 + 2) * (many.toNat + 1) ≤ 90000 := Nat.le_trans (Nat.mul_le_mul_left _ (show many.toNat + 1 ≤ 1001 by omega)) (by decide)
    generalize (max 60 60 + 1 + 2) * (many.toNat + 1) = B at lb hB
    obtain ⟨bU, bV⟩ := lb
    generalize lucV (p + s) (p * s - q * r) many.toNat = v at *
    generalize lucU (p + s) (p * s - q * r) many.toNat = u at *
    repeat' (first
      | with_reducible apply R.var
      | ((with_reducible apply R.isEq); exact rfl)
      | with_reducible apply R.op
      | with_reducible apply R.i2
      | with_reducible apply R.i0
      | with_reducible apply R.con
      | with_reducible apply R.cons
      | with_reducible apply R.nil
      | with_reducible apply R.gcons
      | with_reducible apply R.gname
      | ((with_reducible apply R.ixT); (focus ((repeat' (first | with_reducible assumption | with_reducible apply hU | ((with_reducible apply SqT.of); with_reducible assumption) | ((with_reducible apply same_seqT); with_reducible assumption) | ((with_reducible apply kp_seqT); with_reducible assumption) | ((with_reducible apply Dw.same); with_reducible assumption))); done)); exact rfl)
      | ((with_reducible apply R.ixL); (focus ((repeat' (first | with_reducible assumption | ((with_reducible apply SqL.of); with_reducible assumption) | ((with_reducible apply Same.seq); with_reducible assumption) | ((with_reducible apply Kp.seqL); with_reducible assumption) | ((with_reducible apply fresh_ne); with_reducible assumption) | ((with_reducible apply Dw.same); with_reducible assumption))); done)); exact rfl)
      | with_reducible assumption
      | with_reducible apply Bd.mulW
      | with_reducible apply Bd.mul
      | with_reducible apply Bd.add
      | with_reducible apply Bd.sub
      | ((with_reducible apply Bd.l8); exact eq_true (by decide))
      | ((with_reducible apply Bd.lit); exact eq_true (by decide))
      | with_reducible apply Bd.neg
      | with_reducible apply Bd.div
      | ((with_reducible apply Bd.om); omega)
      | ((with_reducible apply R.isLe); first | decide | omega)
      | with_reducible apply R.un
      | with_reducible apply R.u1
      | with_reducible apply R.tup
      | with_reducible apply R.lst
      | with_reducible apply R.call
      | with_reducible apply R.callB
      | with_reducible apply R.gtup
      | with_reducible apply R.gnil
      | with_reducible apply R.seq
      | with_reducible apply R.asg
      | with_reducible apply R.ret
      | with_reducible apply R.next
      | with_reducible apply R.drop
      | with_reducible apply R.par
      | with_reducible apply R.par2
      | with_reducible apply R.ifs
      | with_reducible apply R.tif
      | with_reducible apply R.test
      | with_reducible apply R.tb'
      | with_reducible apply R.isbl
      | with_reducible apply R.cmp
      | with_reducible apply R.t2i
      | with_reducible apply R.intp
      | with_reducible apply R.and
      | with_reducible apply R.or
      | with_reducible apply R.not
      | with_reducible apply R.andV
      | with_reducible apply R.orV
      | with_reducible apply R.notV
      | with_reducible apply R.chain
      | with_reducible apply R.tupL
      | with_reducible apply R.lstL
      | with_reducible apply R.cat
      | with_reducible apply R.isiT
      | with_reducible apply R.isiTup
      | with_reducible apply R.isiLst
      | with_reducible apply R.nwT
      | with_reducible apply R.nwL
      | ((with_reducible apply R.mt); intro HN tn sn nn ht)
      | ((with_reducible apply R.ml); intro HN tn sn nn ht)
      | ((with_reducible apply R.ne4); focus ((repeat' (first | with_reducible assumption | with_reducible apply hU | ((with_reducible apply SqT.of); with_reducible assumption) | ((with_reducible apply same_seqT); with_reducible assumption) | ((with_reducible apply kp_seqT); with_reducible assumption) | ((with_reducible apply Dw.same); with_reducible assumption))); done))
      | ((with_reducible apply R.ne3); focus ((repeat' (first | with_reducible assumption | with_reducible apply hU | ((with_reducible apply SqT.of); with_reducible assumption) | ((with_reducible apply same_seqT); with_reducible assumption) | ((with_reducible apply kp_seqT); with_reducible assumption) | ((with_reducible apply Dw.same); with_reducible assumption))); done))
      | ((with_reducible apply R.ne2); focus ((repeat' (first | with_reducible assumption | with_reducible apply hU | ((with_reducible apply SqT.of); with_reducible assumption) | ((with_reducible apply same_seqT); with_reducible assumption) | ((with_reducible apply kp_seqT); with_reducible assumption) | ((with_reducible apply Dw.same); with_reducible assumption))); done))
      | ((with_reducible apply R.eq4); focus ((repeat' (first | with_reducible assumption | with_reducible apply hU | ((with_reducible apply SqT.of); with_reducible assumption) | ((with_reducible apply same_seqT); with_reducible assumption) | ((with_reducible apply kp_seqT); with_reducible assumption) | ((with_reducible apply Dw.same); with_reducible assumption))); done))
      | ((with_reducible apply R.eq3); focus ((repeat' (first | with_reducible assumption | with_reducible apply hU | ((with_reducible apply SqT.of); with_reducible assumption) | ((with_reducible apply same_seqT); with_reducible assumption) | ((with_reducible apply kp_seqT); with_reducible assumption) | ((with_reducible apply Dw.same); with_reducible assumption))); done))
      | ((with_reducible apply R.eq2); focus ((repeat' (first | with_reducible assumption | with_reducible apply hU | ((with_reducible apply SqT.of); with_reducible assumption) | ((with_reducible apply same_seqT); with_reducible assumption) | ((with_reducible apply kp_seqT); with_reducible assumption) | ((with_reducible apply Dw.same); with_reducible assumption))); done))
      | with_reducible apply uLawNext
      | with_reducible apply uLawWide
      | with_reducible apply uLawChange
      | with_reducible apply uMultiply
      | with_reducible apply uDeterminant
      | with_reducible apply uApply
      | with_reducible apply uNegative
      | with_reducible apply uLawAt
      | with_reducible apply uLawMul
      | with_reducible apply uInverse
      | ((with_reducible apply R.nw); intro HN tn sn ht)
      | with_reducible apply iteT
      | with_reducible apply iteF
      | ((with_reducible apply SqT.of); with_reducible assumption)
      | ((with_reducible apply SqL.of); with_reducible assumption)
      | ((with_reducible apply same_seqT); with_reducible assumption)
      | ((with_reducible apply sameB); with_reducible assumption)
      | ((with_reducible apply same_at); with_reducible assumption)
      | ((with_reducible apply kp_seqT); with_reducible assumption)
      | ((with_reducible apply Same.seq); with_reducible assumption)
      | ((with_reducible apply Kp.seqL); with_reducible assumption)
      | ((with_reducible apply fresh_ne); with_reducible assumption)
      | ((with_reducible apply Dw.same); with_reducible assumption)
      | ((with_reducible apply R.isEq); exact eq_true (by first | decide | omega))
      | ((with_reducible apply R.isLt); first | decide | omega)
      | ((with_reducible apply R.isLtI); first | decide | omega)
      | ((with_reducible apply R.isLeI); first | decide | omega)
      | ((with_reducible apply R.cdiv); exact rfl)
      | ((with_reducible apply R.cpow); exact rfl)
      | with_reducible apply hU
      | ((with_reducible apply wayNF); first | exact rfl | exact ⟨rfl, rfl⟩ | exact ⟨rfl, rfl, rfl⟩ | exact ⟨rfl, rfl, rfl, rfl⟩)
      | with_reducible apply R.forE
      | with_reducible apply R.rng1
      | with_reducible apply R.rng2
      | with_reducible apply R.rg1
      | with_reducible apply R.rg2
      | with_reducible apply R.lcE
      | with_reducible apply R.itup
      | with_reducible apply R.ilst
      )
    refine kk _ _ ?_ ?_
    · (repeat' (first | with_reducible exact Same.refl _ | with_reducible assumption | ((with_reducible apply sameB); with_reducible assumption)))
    · rw [ht]
      unfold tv
      rw [m2, m3]
      have e1 : (mpw (p, q, r, s) many.toNat).1 = (v + u * (p - s)) / 2 := by omega
      have e2 : (mpw (p, q, r, s) many.toNat).2.2.2 = (v - u * (p - s)) / 2 := by omega
      rw [e1, e2]
def spRaised (K : PySem.W.Frag) : Sp := fun vs H Q _ => ∃ (am : Addr) (p q r s many : Int), vs = [.ref am, .int many] ∧ SqT K H am [.int p, .int q, .int r, .int s] ∧ -1000 ≤ many ∧ many ≤ 1000 ∧ (mdet (p, q, r, s) = 1 ∨ mdet (p, q, r, s) = -1) ∧ Bd 50 p ∧ Bd 50 q ∧ Bd 50 r ∧ Bd 50 s ∧
  R.Nw H (tv (rz (p, q, r, s) many)) Q
theorem uRaised {H : Hp} {Q : VK} {E : XK} {vs : List V} {am : Addr} {p q r s many x1 x2 x3 x4 : Int} (e : vs = [.ref am, .int many]) (hs : SqT K H am [.int p, .int q, .int r, .int s]) (h0 : -1000 ≤ many) (h1 : many ≤ 1000) (hd : mdet (p, q, r, s) = 1 ∨ mdet (p, q, r, s) = -1) (bp : Bd 50 p) (bq : Bd 50 q) (br : Bd 50 r) (bs : Bd 50 s)
    (hx : rz (p, q, r, s) many = (x1, x2, x3, x4)) (kk : R.Nw H [.int x1, .int x2, .int x3, .int x4] Q) : spRaised K vs H Q E :=
  ⟨am, p, q, r, s, many, e, hs, h0, h1, hd, bp, bq, br, bs, by
    rw [hx]
    exact kk⟩
theorem okRaised (T : Txt K mg fa fd) : FnOk P w K mg base CX0 14 (fa 5) (fd 5) ["m", "many"] (spRaised K) := by
  refine T.F_raised.ok scRaised (fun vs H Q E h => ?_) (fun cdv A outer s' H vs Q E hr h => ?_)
  · obtain ⟨am, p, q, r, s, many, rfl, _⟩ := h
    rfl
  · obtain ⟨am, p, q, r, s, many, rfl, hs, h0, h1, hd, bp, bq, br, bs, kk⟩ := h
    refine ⟨_, (pss_cons (ps_if (pt_cmp (pc_lt (pv 1) pe_int))
      (pss_one (ps_ret (pe_call (sp := spRaised0 K) (okRaised0 T) (hr.mono (by decide)) (by rfl) T.G_raised T.F_raised.kp T.B_raised .nil pass0 (pa_cons (pe_call (sp := spInverse K) (okInverse T) (hr.mono (by decide)) (by rfl) T.G_inverse T.F_inverse.kp T.B_inverse .nil pass0 (pa_cons (pv 0) pa_nil)) (pa_cons (pe_un un_neg (pv 1)) pa_nil)))))
      pss_nil)
      (pss_cons (ps_asg (pv 0) (pgT K 4 (by rfl) (pgs_cons (pg_name (i := 2) scRaised.nd rfl (Or.inl rfl)) (pgs_cons (pg_name (i := 3) scRaised.nd rfl (Or.inl rfl)) (pgs_cons (pg_name (i := 4) scRaised.nd rfl (Or.inl rfl)) (pgs_cons (pg_name (i := 5) scRaised.nd rfl (Or.inl rfl)) pgs_nil))))))
      (pss_cons (ps_asg (pe_call (sp := spPowerParts K) (okPowerParts T) (hr.mono (by decide)) (by rfl) T.G__power_parts T.F__power_parts.kp T.B__power_parts .nil pass0 (pa_cons (pe_op op_add (pv 2) (pv 5)) (pa_cons (pe_call (sp := spDeterminant K) (okDeterminant T) (hr.mono (by decide)) (by rfl) T.G_determinant T.F_determinant.kp T.B_determinant .nil pass0 (pa_cons (pv 0) pa_nil)) (pa_cons (pv 1) pa_nil)))) (pgT K 2 (by rfl) (pgs_cons (pg_name (i := 6) scRaised.nd rfl (Or.inl rfl)) (pgs_cons (pg_name (i := 7) scRaised.nd rfl (Or.inl rfl)) pgs_nil))))
      (pss_cons (ps_set (i := 8) scRaised.nd rfl (Or.inl rfl) (pe_op op_mulW (pv 7) (pe_op op_sub (pv 2) (pv 5))))
      (pss_one (ps_ret (pe_tup (pa_cons (pe_op op_fdiv (pe_op op_add (pv 6) (pv 8)) pe_int) (pa_cons (pe_op op_mulW (pv 7) (pv 3)) (pa_cons (pe_op op_mulW (pv 7) (pv 4)) (pa_cons (pe_op op_fdiv (pe_op op_sub (pv 6) (pv 8)) pe_int) pa_nil))))))))))), ?_⟩
    have hd' : p * s - q * r = 1 ∨ p * s - q * r = -1 := hd
    repeat' (first
      | with_reducible apply R.var
      | ((with_reducible apply R.isEq); exact rfl)
      | with_reducible apply R.op
      | with_reducible apply R.i2
      | with_reducible apply R.i0
      | with_reducible apply R.con
      | with_reducible apply R.cons
      | with_reducible apply R.nil
      | with_reducible apply R.gcons
      | with_reducible apply R.gname
      | ((with_reducible apply R.ixT); (focus ((repeat' (first | with_reducible assumption | with_reducible apply hU | ((with_reducible apply SqT.of); with_reducible assumption) | ((with_reducible apply same_seqT); with_reducible assumption) | ((with_reducible apply kp_seqT); with_reducible assumption) | ((with_reducible apply Dw.same); with_reducible assumption))); done)); exact rfl)
      | ((with_reducible apply R.ixL); (focus ((repeat' (first | with_reducible assumption | ((with_reducible apply SqL.of); with_reducible assumption) | ((with_reducible apply Same.seq); with_reducible assumption) | ((with_reducible apply Kp.seqL); with_reducible assumption) | ((with_reducible apply fresh_ne); with_reducible assumption) | ((with_reducible apply Dw.same); with_reducible assumption))); done)); exact rfl)
      | with_reducible assumption
      | with_reducible apply Bd.mulW
      | with_reducible apply Bd.mul
      | with_reducible apply Bd.add
      | with_reducible apply Bd.sub
      | ((with_reducible apply Bd.l8); exact eq_true (by decide))
      | ((with_reducible apply Bd.lit); exact eq_true (by decide))
      | with_reducible apply Bd.neg
      | with_reducible apply Bd.div
      | ((with_reducible apply Bd.om); omega)
      | ((with_reducible apply R.isLe); first | decide | omega)
      | with_reducible apply R.un
      | with_reducible apply R.u1
      | with_reducible apply R.tup
      | with_reducible apply R.lst
      | with_reducible apply R.call
      | with_reducible apply R.callB
      | with_reducible apply R.gtup
      | with_reducible apply R.gnil
      | with_reducible apply R.seq
      | with_reducible apply R.asg
      | with_reducible apply R.ret
      | with_reducible apply R.next
      | with_reducible apply R.drop
      | with_reducible apply R.par
      | with_reducible apply R.par2
      | with_reducible apply R.ifs
      | with_reducible apply R.tif
      | with_reducible apply R.test
      | with_reducible apply R.tb'
      | with_reducible apply R.isbl
      | with_reducible apply R.cmp
      | with_reducible apply R.t2i
      | with_reducible apply R.intp
      | with_reducible apply R.and
      | with_reducible apply R.or
      | with_reducible apply R.not
      | with_reducible apply R.andV
      | with_reducible apply R.orV
      | with_reducible apply R.notV
      | with_reducible apply R.chain
      | with_reducible apply R.tupL
      | with_reducible apply R.lstL
      | with_reducible apply R.cat
      | with_reducible apply R.isiT
      | with_reducible apply R.isiTup
      | with_reducible apply R.isiLst
      | with_reducible apply R.nwT
      | with_reducible apply R.nwL
      | ((with_reducible apply R.mt); intro HN tn sn nn ht)
      | ((with_reducible apply R.ml); intro HN tn sn nn ht)
      | ((with_reducible apply R.ne4); focus ((repeat' (first | with_reducible assumption | with_reducible apply hU | ((with_reducible apply SqT.of); with_reducible assumption) | ((with_reducible apply same_seqT); with_reducible assumption) | ((with_reducible apply kp_seqT); with_reducible assumption) | ((with_reducible apply Dw.same); with_reducible assumption))); done))
      | ((with_reducible apply R.ne3); focus ((repeat' (first | with_reducible assumption | with_reducible apply hU | ((with_reducible apply SqT.of); with_reducible assumption) | ((with_reducible apply same_seqT); with_reducible assumption) | ((with_reducible apply kp_seqT); with_reducible assumption) | ((with_reducible apply Dw.same); with_reducible assumption))); done))
      | ((with_reducible apply R.ne2); focus ((repeat' (first | with_reducible assumption | with_reducible apply hU | ((with_reducible apply SqT.of); with_reducible assumption) | ((with_reducible apply same_seqT); with_reducible assumption) | ((with_reducible apply kp_seqT); with_reducible assumption) | ((with_reducible apply Dw.same); with_reducible assumption))); done))
      | ((with_reducible apply R.eq4); focus ((repeat' (first | with_reducible assumption | with_reducible apply hU | ((with_reducible apply SqT.of); with_reducible assumption) | ((with_reducible apply same_seqT); with_reducible assumption) | ((with_reducible apply kp_seqT); with_reducible assumption) | ((with_reducible apply Dw.same); with_reducible assumption))); done))
      | ((with_reducible apply R.eq3); focus ((repeat' (first | with_reducible assumption | with_reducible apply hU | ((with_reducible apply SqT.of); with_reducible assumption) | ((with_reducible apply same_seqT); with_reducible assumption) | ((with_reducible apply kp_seqT); with_reducible assumption) | ((with_reducible apply Dw.same); with_reducible assumption))); done))
      | ((with_reducible apply R.eq2); focus ((repeat' (first | with_reducible assumption | with_reducible apply hU | ((with_reducible apply SqT.of); with_reducible assumption) | ((with_reducible apply same_seqT); with_reducible assumption) | ((with_reducible apply kp_seqT); with_reducible assumption) | ((with_reducible apply Dw.same); with_reducible assumption))); done))
      | with_reducible apply uLawNext
      | with_reducible apply uLawWide
      | with_reducible apply uLawChange
      | with_reducible apply uMultiply
      | with_reducible apply uDeterminant
      | with_reducible apply uApply
      | with_reducible apply uNegative
      | with_reducible apply uLawAt
      | with_reducible apply uLawMul
      | with_reducible apply uInverse
      | ((with_reducible apply R.nw); intro HN tn sn ht)
      | with_reducible apply iteT
      | with_reducible apply iteF
      | ((with_reducible apply SqT.of); with_reducible assumption)
      | ((with_reducible apply SqL.of); with_reducible assumption)
      | ((with_reducible apply same_seqT); with_reducible assumption)
      | ((with_reducible apply sameB); with_reducible assumption)
      | ((with_reducible apply same_at); with_reducible assumption)
      | ((with_reducible apply kp_seqT); with_reducible assumption)
      | ((with_reducible apply Same.seq); with_reducible assumption)
      | ((with_reducible apply Kp.seqL); with_reducible assumption)
      | ((with_reducible apply fresh_ne); with_reducible assumption)
      | ((with_reducible apply Dw.same); with_reducible assumption)
      | ((with_reducible apply R.isEq); exact eq_true (by first | decide | omega))
      | ((with_reducible apply R.isLt); first | decide | omega)
      | ((with_reducible apply R.isLtI); first | decide | omega)
      | ((with_reducible apply R.isLeI); first | decide | omega)
      | ((with_reducible apply R.cdiv); exact rfl)
      | ((with_reducible apply R.cpow); exact rfl)
      | with_reducible apply hU
      | ((with_reducible apply wayNF); first | exact rfl | exact ⟨rfl, rfl⟩ | exact ⟨rfl, rfl, rfl⟩ | exact ⟨rfl, rfl, rfl, rfl⟩)
      | with_reducible apply R.forE
      | with_reducible apply R.rng1
      | with_reducible apply R.rng2
      | with_reducible apply R.rg1
      | with_reducible apply R.rg2
      | with_reducible apply R.lcE
      | with_reducible apply R.itup
      | with_reducible apply R.ilst
      )
    refine way2 (fun z => ?_) (fun z => ?_)
    · unfold rz at kk
      rw [if_neg (by omega)] at kk
      repeat' (first
        | with_reducible apply R.var
        | ((with_reducible apply R.isEq); exact rfl)
        | with_reducible apply R.op
        | with_reducible apply R.i2
        | with_reducible apply R.i0
        | with_reducible apply R.con
        | with_reducible apply R.cons
        | with_reducible apply R.nil
        | with_reducible apply R.gcons
        | with_reducible apply R.gname
        | ((with_reducible apply R.ixT); (focus ((repeat' (first | with_reducible assumption | with_reducible apply hU | ((with_reducible apply SqT.of); with_reducible assumption) | ((with_reducible apply same_seqT); with_reducible assumption) | ((with_reducible apply kp_seqT); with_reducible assumption) | ((with_reducible apply Dw.same); with_reducible assumption))); done)); exact rfl)
        | ((with_reducible apply R.ixL); (focus ((repeat' (first | with_reducible assumption | ((with_reducible apply SqL.of); with_reducible assumption) | ((with_reducible apply Same.seq); with_reducible assumption) | ((with_reducible apply Kp.seqL); with_reducible assumption) | ((with_reducible apply fresh_ne); with_reducible assumption) | ((with_reducible apply Dw.same); with_reducible assumption))); done)); exact rfl)
        | with_reducible assumption
        | with_reducible apply Bd.mulW
        | with_reducible apply Bd.mul
        | with_reducible apply Bd.add
        | with_reducible apply Bd.sub
        | ((with_reducible apply Bd.l8); exact eq_true (by decide))
        | ((with_reducible apply Bd.lit); exact eq_true (by decide))
        | with_reducible apply Bd.neg
        | with_reducible apply Bd.div
        | ((with_reducible apply Bd.om); omega)
        | ((with_reducible apply R.isLe); first | decide | omega)
        | with_reducible apply R.un
        | with_reducible apply R.u1
        | with_reducible apply R.tup
        | with_reducible apply R.lst
        | with_reducible apply R.call
        | with_reducible apply R.callB
        | with_reducible apply R.gtup
        | with_reducible apply R.gnil
        | with_reducible apply R.seq
        | with_reducible apply R.asg
        | with_reducible apply R.ret
        | with_reducible apply R.next
        | with_reducible apply R.drop
        | with_reducible apply R.par
        | with_reducible apply R.par2
        | with_reducible apply R.ifs
        | with_reducible apply R.tif
        | with_reducible apply R.test
        | with_reducible apply R.tb'
        | with_reducible apply R.isbl
        | with_reducible apply R.cmp
        | with_reducible apply R.t2i
        | with_reducible apply R.intp
        | with_reducible apply R.and
        | with_reducible apply R.or
        | with_reducible apply R.not
        | with_reducible apply R.andV
        | with_reducible apply R.orV
        | with_reducible apply R.notV
        | with_reducible apply R.chain
        | with_reducible apply R.tupL
        | with_reducible apply R.lstL
        | with_reducible apply R.cat
        | with_reducible apply R.isiT
        | with_reducible apply R.isiTup
        | with_reducible apply R.isiLst
        | with_reducible apply R.nwT
        | with_reducible apply R.nwL
        | ((with_reducible apply R.mt); intro HN tn sn nn ht)
        | ((with_reducible apply R.ml); intro HN tn sn nn ht)
        | ((with_reducible apply R.ne4); focus ((repeat' (first | with_reducible assumption | with_reducible apply hU | ((with_reducible apply SqT.of); with_reducible assumption) | ((with_reducible apply same_seqT); with_reducible assumption) | ((with_reducible apply kp_seqT); with_reducible assumption) | ((with_reducible apply Dw.same); with_reducible assumption))); done))
        | ((with_reducible apply R.ne3); focus ((repeat' (first | with_reducible assumption | with_reducible apply hU | ((with_reducible apply SqT.of); with_reducible assumption) | ((with_reducible apply same_seqT); with_reducible assumption) | ((with_reducible apply kp_seqT); with_reducible assumption) | ((with_reducible apply Dw.same); with_reducible assumption))); done))
        | ((with_reducible apply R.ne2); focus ((repeat' (first | with_reducible assumption | with_reducible apply hU | ((with_reducible apply SqT.of); with_reducible assumption) | ((with_reducible apply same_seqT); with_reducible assumption) | ((with_reducible apply kp_seqT); with_reducible assumption) | ((with_reducible apply Dw.same); with_reducible assumption))); done))
        | ((with_reducible apply R.eq4); focus ((repeat' (first | with_reducible assumption | with_reducible apply hU | ((with_reducible apply SqT.of); with_reducible assumption) | ((with_reducible apply same_seqT); with_reducible assumption) | ((with_reducible apply kp_seqT); with_reducible assumption) | ((with_reducible apply Dw.same); with_reducible assumption))); done))
        | ((with_reducible apply R.eq3); focus ((repeat' (first | with_reducible assumption | with_reducible apply hU | ((with_reducible apply SqT.of); with_reducible assumption) | ((with_reducible apply same_seqT); with_reducible assumption) | ((with_reducible apply kp_seqT); with_reducible assumption) | ((with_reducible apply Dw.same); with_reducible assumption))); done))
        | ((with_reducible apply R.eq2); focus ((repeat' (first | with_reducible assumption | with_reducible apply hU | ((with_reducible apply SqT.of); with_reducible assumption) | ((with_reducible apply same_seqT); with_reducible assumption) | ((with_reducible apply kp_seqT); with_reducible assumption) | ((with_reducible apply Dw.same); with_reducible assumption))); done))
        | with_reducible apply uLawNext
        | with_reducible apply uLawWide
        | with_reducible apply uLawChange
        | with_reducible apply uMultiply
        | with_reducible apply uDeterminant
        | with_reducible apply uApply
        | with_reducible apply uNegative
        | with_reducible apply uLawAt
        | with_reducible apply uLawMul
        | with_reducible apply uInverse
        | ((with_reducible apply R.nw); intro HN tn sn ht)
        | with_reducible apply iteT
        | with_reducible apply iteF
        | ((with_reducible apply SqT.of); with_reducible assumption)
        | ((with_reducible apply SqL.of); with_reducible assumption)
        | ((with_reducible apply same_seqT); with_reducible assumption)
        | ((with_reducible apply sameB); with_reducible assumption)
        | ((with_reducible apply same_at); with_reducible assumption)
        | ((with_reducible apply kp_seqT); with_reducible assumption)
        | ((with_reducible apply Same.seq); with_reducible assumption)
        | ((with_reducible apply Kp.seqL); with_reducible assumption)
        | ((with_reducible apply fresh_ne); with_reducible assumption)
        | ((with_reducible apply Dw.same); with_reducible assumption)
        | ((with_reducible apply R.isEq); exact eq_true (by first | decide | omega))
        | ((with_reducible apply R.isLt); first | decide | omega)
        | ((with_reducible apply R.isLtI); first | decide | omega)
        | ((with_reducible apply R.isLeI); first | decide | omega)
        | ((with_reducible apply R.cdiv); exact rfl)
        | ((with_reducible apply R.cpow); exact rfl)
        | with_reducible apply hU
        | ((with_reducible apply wayNF); first | exact rfl | exact ⟨rfl, rfl⟩ | exact ⟨rfl, rfl, rfl⟩ | exact ⟨rfl, rfl, rfl, rfl⟩)
        | with_reducible apply R.forE
        | with_reducible apply R.rng1
        | with_reducible apply R.rng2
        | with_reducible apply R.rg1
        | with_reducible apply R.rg2
        | with_reducible apply R.lcE
        | with_reducible apply R.itup
        | with_reducible apply R.ilst
        )
      have e1 : mdet ((p * s - q * r) * s, -((p * s - q * r) * q), -((p * s - q * r) * r), (p * s - q * r) * p) = 1 ∨ mdet ((p * s - q * r) * s, -((p * s - q * r) * q), -((p * s - q * r) * r), (p * s - q * r) * p) = -1 := by
        show ((p * s - q * r) * s) * ((p * s - q * r) * p) - (-((p * s - q * r) * q)) * (-((p * s - q * r) * r)) = 1 ∨ ((p * s - q * r) * s) * ((p * s - q * r) * p) - (-((p * s - q * r) * q)) * (-((p * s - q * r) * r)) = -1
        rcases hd' with h | h
        · rw [h]
          grind
        · rw [h]
          grind
      have be := bd1 hd'
      refine uRaised0 rfl (SqT.of ht) (by omega) (by omega) e1 ((be.mul bs).mono (by decide)) ((be.mul bq).neg.mono (by decide)) ((be.mul br).neg.mono (by decide)) ((be.mul bp).mono (by decide)) ?_
      repeat' (first
        | with_reducible apply R.var
        | ((with_reducible apply R.isEq); exact rfl)
        | with_reducible apply R.op
        | with_reducible apply R.i2
        | with_reducible apply R.i0
        | with_reducible apply R.con
        | with_reducible apply R.cons
        | with_reducible apply R.nil
        | with_reducible apply R.gcons
        | with_reducible apply R.gname
        | ((with_reducible apply R.ixT); (focus ((repeat' (first | with_reducible assumption | with_reducible apply hU | ((with_reducible apply SqT.of); with_reducible assumption) | ((with_reducible apply same_seqT); with_reducible assumption) | ((with_reducible apply kp_seqT); with_reducible assumption) | ((with_reducible apply Dw.same); with_reducible assumption))); done)); exact rfl)
        | ((with_reducible apply R.ixL); (focus ((repeat' (first | with_reducible assumption | ((with_reducible apply SqL.of); with_reducible assumption) | ((with_reducible apply Same.seq); with_reducible assumption) | ((with_reducible apply Kp.seqL); with_reducible assumption) | ((with_reducible apply fresh_ne); with_reducible assumption) | ((with_reducible apply Dw.same); with_reducible assumption))); done)); exact rfl)
        | with_reducible assumption
        | with_reducible apply Bd.mulW
        | with_reducible apply Bd.mul
        | with_reducible apply Bd.add
        | with_reducible apply Bd.sub
        | ((with_reducible apply Bd.l8); exact eq_true (by decide))
        | ((with_reducible apply Bd.lit); exact eq_true (by decide))
        | with_reducible apply Bd.neg
        | with_reducible apply Bd.div
        | ((with_reducible apply Bd.om); omega)
        | ((with_reducible apply R.isLe); first | decide | omega)
        | with_reducible apply R.un
        | with_reducible apply R.u1
        | with_reducible apply R.tup
        | with_reducible apply R.lst
        | with_reducible apply R.call
        | with_reducible apply R.callB
        | with_reducible apply R.gtup
        | with_reducible apply R.gnil
        | with_reducible apply R.seq
        | with_reducible apply R.asg
        | with_reducible apply R.ret
        | with_reducible apply R.next
        | with_reducible apply R.drop
        | with_reducible apply R.par
        | with_reducible apply R.par2
        | with_reducible apply R.ifs
        | with_reducible apply R.tif
        | with_reducible apply R.test
        | with_reducible apply R.tb'
        | with_reducible apply R.isbl
        | with_reducible apply R.cmp
        | with_reducible apply R.t2i
        | with_reducible apply R.intp
        | with_reducible apply R.and
        | with_reducible apply R.or
        | with_reducible apply R.not
        | with_reducible apply R.andV
        | with_reducible apply R.orV
        | with_reducible apply R.notV
        | with_reducible apply R.chain
        | with_reducible apply R.tupL
        | with_reducible apply R.lstL
        | with_reducible apply R.cat
        | with_reducible apply R.isiT
        | with_reducible apply R.isiTup
        | with_reducible apply R.isiLst
        | with_reducible apply R.nwT
        | with_reducible apply R.nwL
        | ((with_reducible apply R.mt); intro HN tn sn nn ht)
        | ((with_reducible apply R.ml); intro HN tn sn nn ht)
        | ((with_reducible apply R.ne4); focus ((repeat' (first | with_reducible assumption | with_reducible apply hU | ((with_reducible apply SqT.of); with_reducible assumption) | ((with_reducible apply same_seqT); with_reducible assumption) | ((with_reducible apply kp_seqT); with_reducible assumption) | ((with_reducible apply Dw.same); with_reducible assumption))); done))
        | ((with_reducible apply R.ne3); focus ((repeat' (first | with_reducible assumption | with_reducible apply hU | ((with_reducible apply SqT.of); with_reducible assumption) | ((with_reducible apply same_seqT); with_reducible assumption) | ((with_reducible apply kp_seqT); with_reducible assumption) | ((with_reducible apply Dw.same); with_reducible assumption))); done))
        | ((with_reducible apply R.ne2); focus ((repeat' (first | with_reducible assumption | with_reducible apply hU | ((with_reducible apply SqT.of); with_reducible assumption) | ((with_reducible apply same_seqT); with_reducible assumption) | ((with_reducible apply kp_seqT); with_reducible assumption) | ((with_reducible apply Dw.same); with_reducible assumption))); done))
        | ((with_reducible apply R.eq4); focus ((repeat' (first | with_reducible assumption | with_reducible apply hU | ((with_reducible apply SqT.of); with_reducible assumption) | ((with_reducible apply same_seqT); with_reducible assumption) | ((with_reducible apply kp_seqT); with_reducible assumption) | ((with_reducible apply Dw.same); with_reducible assumption))); done))
        | ((with_reducible apply R.eq3); focus ((repeat' (first | with_reducible assumption | with_reducible apply hU | ((with_reducible apply SqT.of); with_reducible assumption) | ((with_reducible apply same_seqT); with_reducible assumption) | ((with_reducible apply kp_seqT); with_reducible assumption) | ((with_reducible apply Dw.same); with_reducible assumption))); done))
        | ((with_reducible apply R.eq2); focus ((repeat' (first | with_reducible assumption | with_reducible apply hU | ((with_reducible apply SqT.of); with_reducible assumption) | ((with_reducible apply same_seqT); with_reducible assumption) | ((with_reducible apply kp_seqT); with_reducible assumption) | ((with_reducible apply Dw.same); with_reducible assumption))); done))
        | with_reducible apply uLawNext
        | with_reducible apply uLawWide
        | with_reducible apply uLawChange
        | with_reducible apply uMultiply
        | with_reducible apply uDeterminant
        | with_reducible apply uApply
        | with_reducible apply uNegative
        | with_reducible apply uLawAt
        | with_reducible apply uLawMul
        | with_reducible apply uInverse
        | ((with_reducible apply R.nw); intro HN tn sn ht)
        | with_reducible apply iteT
        | with_reducible apply iteF
        | ((with_reducible apply SqT.of); with_reducible assumption)
        | ((with_reducible apply SqL.of); with_reducible assumption)
        | ((with_reducible apply same_seqT); with_reducible assumption)
        | ((with_reducible apply sameB); with_reducible assumption)
        | ((with_reducible apply same_at); with_reducible assumption)
        | ((with_reducible apply kp_seqT); with_reducible assumption)
        | ((with_reducible apply Same.seq); with_reducible assumption)
        | ((with_reducible apply Kp.seqL); with_reducible assumption)
        | ((with_reducible apply fresh_ne); with_reducible assumption)
        | ((with_reducible apply Dw.same); with_reducible assumption)
        | ((with_reducible apply R.isEq); exact eq_true (by first | decide | omega))
        | ((with_reducible apply R.isLt); first | decide | omega)
        | ((with_reducible apply R.isLtI); first | decide | omega)
        | ((with_reducible apply R.isLeI); first | decide | omega)
        | ((with_reducible apply R.cdiv); exact rfl)
        | ((with_reducible apply R.cpow); exact rfl)
        | with_reducible apply hU
        | ((with_reducible apply wayNF); first | exact rfl | exact ⟨rfl, rfl⟩ | exact ⟨rfl, rfl, rfl⟩ | exact ⟨rfl, rfl, rfl, rfl⟩)
        | with_reducible apply R.forE
        | with_reducible apply R.rng1
        | with_reducible apply R.rng2
        | with_reducible apply R.rg1
        | with_reducible apply R.rg2
        | with_reducible apply R.lcE
        | with_reducible apply R.itup
        | with_reducible apply R.ilst
        )
      refine kk _ _ ?_ (by assumption)
      (repeat' (first | with_reducible exact Same.refl _ | with_reducible assumption | ((with_reducible apply sameB); with_reducible assumption)))
    · have h0 : 0 ≤ many := by omega
      unfold rz at kk
      rw [if_pos h0] at kk
      have bp := bp.mono (show 50 ≤ 60 by decide)
      have bq := bq.mono (show 50 ≤ 60 by decide)
      have br := br.mono (show 50 ≤ 60 by decide)
      have bs := bs.mono (show 50 ≤ 60 by decide)
      repeat' (first
        | with_reducible apply R.var
        | ((with_reducible apply R.isEq); exact rfl)
        | with_reducible apply R.op
        | with_reducible apply R.i2
        | with_reducible apply R.i0
        | with_reducible apply R.con
        | with_reducible apply R.cons
        | with_reducible apply R.nil
        | with_reducible apply R.gcons
        | with_reducible apply R.gname
        | ((with_reducible apply R.ixT); (focus ((repeat' (first | with_reducible assumption | with_reducible apply hU | ((with_reducible apply SqT.of); with_reducible assumption) | ((with_reducible apply same_seqT); with_reducible assumption) | ((with_reducible apply kp_seqT); with_reducible assumption) | ((with_reducible apply Dw.same); with_reducible assumption))); done)); exact rfl)
        | ((with_reducible apply R.ixL); (focus ((repeat' (first | with_reducible assumption | ((with_reducible apply SqL.of); with_reducible assumption) | ((with_reducible apply Same.seq); with_reducible assumption) | ((with_reducible apply Kp.seqL); with_reducible assumption) | ((with_reducible apply fresh_ne); with_reducible assumption) | ((with_reducible apply Dw.same); with_reducible assumption))); done)); exact rfl)
        | with_reducible assumption
        | with_reducible apply Bd.mulW
        | with_reducible apply Bd.mul
        | with_reducible apply Bd.add
        | with_reducible apply Bd.sub
        | ((with_reducible apply Bd.l8); exact eq_true (by decide))
        | ((with_reducible apply Bd.lit); exact eq_true (by decide))
        | with_reducible apply Bd.neg
        | with_reducible apply Bd.div
        | ((with_reducible apply Bd.om); omega)
        | ((with_reducible apply R.isLe); first | decide | omega)
        | with_reducible apply R.un
        | with_reducible apply R.u1
        | with_reducible apply R.tup
        | with_reducible apply R.lst
        | with_reducible apply R.call
        | with_reducible apply R.callB
        | with_reducible apply R.gtup
        | with_reducible apply R.gnil
        | with_reducible apply R.seq
        | with_reducible apply R.asg
        | with_reducible apply R.ret
        | with_reducible apply R.next
        | with_reducible apply R.drop
        | with_reducible apply R.par
        | with_reducible apply R.par2
        | with_reducible apply R.ifs
        | with_reducible apply R.tif
        | with_reducible apply R.test
        | with_reducible apply R.tb'
        | with_reducible apply R.isbl
        | with_reducible apply R.cmp
        | with_reducible apply R.t2i
        | with_reducible apply R.intp
        | with_reducible apply R.and
        | with_reducible apply R.or
        | with_reducible apply R.not
        | with_reducible apply R.andV
        | with_reducible apply R.orV
        | with_reducible apply R.notV
        | with_reducible apply R.chain
        | with_reducible apply R.tupL
        | with_reducible apply R.lstL
        | with_reducible apply R.cat
        | with_reducible apply R.isiT
        | with_reducible apply R.isiTup
        | with_reducible apply R.isiLst
        | with_reducible apply R.nwT
        | with_reducible apply R.nwL
        | ((with_reducible apply R.mt); intro HN tn sn nn ht)
        | ((with_reducible apply R.ml); intro HN tn sn nn ht)
        | ((with_reducible apply R.ne4); focus ((repeat' (first | with_reducible assumption | with_reducible apply hU | ((with_reducible apply SqT.of); with_reducible assumption) | ((with_reducible apply same_seqT); with_reducible assumption) | ((with_reducible apply kp_seqT); with_reducible assumption) | ((with_reducible apply Dw.same); with_reducible assumption))); done))
        | ((with_reducible apply R.ne3); focus ((repeat' (first | with_reducible assumption | with_reducible apply hU | ((with_reducible apply SqT.of); with_reducible assumption) | ((with_reducible apply same_seqT); with_reducible assumption) | ((with_reducible apply kp_seqT); with_reducible assumption) | ((with_reducible apply Dw.same); with_reducible assumption))); done))
        | ((with_reducible apply R.ne2); focus ((repeat' (first | with_reducible assumption | with_reducible apply hU | ((with_reducible apply SqT.of); with_reducible assumption) | ((with_reducible apply same_seqT); with_reducible assumption) | ((with_reducible apply kp_seqT); with_reducible assumption) | ((with_reducible apply Dw.same); with_reducible assumption))); done))
        | ((with_reducible apply R.eq4); focus ((repeat' (first | with_reducible assumption | with_reducible apply hU | ((with_reducible apply SqT.of); with_reducible assumption) | ((with_reducible apply same_seqT); with_reducible assumption) | ((with_reducible apply kp_seqT); with_reducible assumption) | ((with_reducible apply Dw.same); with_reducible assumption))); done))
        | ((with_reducible apply R.eq3); focus ((repeat' (first | with_reducible assumption | with_reducible apply hU | ((with_reducible apply SqT.of); with_reducible assumption) | ((with_reducible apply same_seqT); with_reducible assumption) | ((with_reducible apply kp_seqT); with_reducible assumption) | ((with_reducible apply Dw.same); with_reducible assumption))); done))
        | ((with_reducible apply R.eq2); focus ((repeat' (first | with_reducible assumption | with_reducible apply hU | ((with_reducible apply SqT.of); with_reducible assumption) | ((with_reducible apply same_seqT); with_reducible assumption) | ((with_reducible apply kp_seqT); with_reducible assumption) | ((with_reducible apply Dw.same); with_reducible assumption))); done))
        | with_reducible apply uLawNext
        | with_reducible apply uLawWide
        | with_reducible apply uLawChange
        | with_reducible apply uMultiply
        | with_reducible apply uDeterminant
        | with_reducible apply uApply
        | with_reducible apply uNegative
        | with_reducible apply uLawAt
        | with_reducible apply uLawMul
        | with_reducible apply uInverse
        | ((with_reducible apply R.nw); intro HN tn sn ht)
        | with_reducible apply iteT
        | with_reducible apply iteF
        | ((with_reducible apply SqT.of); with_reducible assumption)
        | ((with_reducible apply SqL.of); with_reducible assumption)
        | ((with_reducible apply same_seqT); with_reducible assumption)
        | ((with_reducible apply sameB); with_reducible assumption)
        | ((with_reducible apply same_at); with_reducible assumption)
        | ((with_reducible apply kp_seqT); with_reducible assumption)
        | ((with_reducible apply Same.seq); with_reducible assumption)
        | ((with_reducible apply Kp.seqL); with_reducible assumption)
        | ((with_reducible apply fresh_ne); with_reducible assumption)
        | ((with_reducible apply Dw.same); with_reducible assumption)
        | ((with_reducible apply R.isEq); exact eq_true (by first | decide | omega))
        | ((with_reducible apply R.isLt); first | decide | omega)
        | ((with_reducible apply R.isLtI); first | decide | omega)
        | ((with_reducible apply R.isLeI); first | decide | omega)
        | ((with_reducible apply R.cdiv); exact rfl)
        | ((with_reducible apply R.cpow); exact rfl)
        | with_reducible apply hU
        | ((with_reducible apply wayNF); first | exact rfl | exact ⟨rfl, rfl⟩ | exact ⟨rfl, rfl, rfl⟩ | exact ⟨rfl, rfl, rfl, rfl⟩)
        | with_reducible apply R.forE
        | with_reducible apply R.rng1
        | with_reducible apply R.rng2
        | with_reducible apply R.rg1
        | with_reducible apply R.rg2
        | with_reducible apply R.lcE
        | with_reducible apply R.itup
        | with_reducible apply R.ilst
        )
      refine uPowerParts (N := 61) rfl h0 h1 hd' (bp.add bs) (by decide) ?_
      have lb := luc_bd (bp.add bs) hd' many.toNat
      obtain ⟨m1, m2, m3, m4⟩ := mpw_luc (p, q, r, s) many.toNat
      dsimp only [mdet] at m1 m2 m3 m4
      have hB : (max 60 60 + 1 + 2) * (many.toNat + 1) ≤ 90000 := Nat.le_trans (Nat.mul_le_mul_left _ (show many.toNat + 1 ≤ 1001 by omega)) (by decide)
      generalize (max 60 60 + 1 + 2) * (many.toNat + 1) = B at lb hB
      obtain ⟨bU, bV⟩ := lb
      generalize lucV (p + s) (p * s - q * r) many.toNat = v at *
      generalize lucU (p + s) (p * s - q * r) many.toNat = u at *
      repeat' (first
        | with_reducible apply R.var
        | ((with_reducible apply R.isEq); exact rfl)
        | with_reducible apply R.op
        | with_reducible apply R.i2
        | with_reducible apply R.i0
        | with_reducible apply R.con
        | with_reducible apply R.cons
        | with_reducible apply R.nil
        | with_reducible apply R.gcons
        | with_reducible apply R.gname
        | ((with_reducible apply R.ixT); (focus ((repeat' (first | with_reducible assumption | with_reducible apply hU | ((with_reducible apply SqT.of); with_reducible assumption) | ((with_reducible apply same_seqT); with_reducible assumption) | ((with_reducible apply kp_seqT); with_reducible assumption) | ((with_reducible apply Dw.same); with_reducible assumption))); done)); exact rfl)
        | ((with_reducible apply R.ixL); (focus ((repeat' (first | with_reducible assumption | ((with_reducible apply SqL.of); with_reducible assumption) | ((with_reducible apply Same.seq); with_reducible assumption) | ((with_reducible apply Kp.seqL); with_reducible assumption) | ((with_reducible apply fresh_ne); with_reducible assumption) | ((with_reducible apply Dw.same); with_reducible assumption))); done)); exact rfl)
        | with_reducible assumption
        | with_reducible apply Bd.mulW
        | with_reducible apply Bd.mul
        | with_reducible apply Bd.add
        | with_reducible apply Bd.sub
        | ((with_reducible apply Bd.l8); exact eq_true (by decide))
        | ((with_reducible apply Bd.lit); exact eq_true (by decide))
        | with_reducible apply Bd.neg
        | with_reducible apply Bd.div
        | ((with_reducible apply Bd.om); omega)
        | ((with_reducible apply R.isLe); first | decide | omega)
        | with_reducible apply R.un
        | with_reducible apply R.u1
        | with_reducible apply R.tup
        | with_reducible apply R.lst
        | with_reducible apply R.call
        | with_reducible apply R.callB
        | with_reducible apply R.gtup
        | with_reducible apply R.gnil
        | with_reducible apply R.seq
        | with_reducible apply R.asg
        | with_reducible apply R.ret
        | with_reducible apply R.next
        | with_reducible apply R.drop
        | with_reducible apply R.par
        | with_reducible apply R.par2
        | with_reducible apply R.ifs
        | with_reducible apply R.tif
        | with_reducible apply R.test
        | with_reducible apply R.tb'
        | with_reducible apply R.isbl
        | with_reducible apply R.cmp
        | with_reducible apply R.t2i
        | with_reducible apply R.intp
        | with_reducible apply R.and
        | with_reducible apply R.or
        | with_reducible apply R.not
        | with_reducible apply R.andV
        | with_reducible apply R.orV
        | with_reducible apply R.notV
        | with_reducible apply R.chain
        | with_reducible apply R.tupL
        | with_reducible apply R.lstL
        | with_reducible apply R.cat
        | with_reducible apply R.isiT
        | with_reducible apply R.isiTup
        | with_reducible apply R.isiLst
        | with_reducible apply R.nwT
        | with_reducible apply R.nwL
        | ((with_reducible apply R.mt); intro HN tn sn nn ht)
        | ((with_reducible apply R.ml); intro HN tn sn nn ht)
        | ((with_reducible apply R.ne4); focus ((repeat' (first | with_reducible assumption | with_reducible apply hU | ((with_reducible apply SqT.of); with_reducible assumption) | ((with_reducible apply same_seqT); with_reducible assumption) | ((with_reducible apply kp_seqT); with_reducible assumption) | ((with_reducible apply Dw.same); with_reducible assumption))); done))
        | ((with_reducible apply R.ne3); focus ((repeat' (first | with_reducible assumption | with_reducible apply hU | ((with_reducible apply SqT.of); with_reducible assumption) | ((with_reducible apply same_seqT); with_reducible assumption) | ((with_reducible apply kp_seqT); with_reducible assumption) | ((with_reducible apply Dw.same); with_reducible assumption))); done))
        | ((with_reducible apply R.ne2); focus ((repeat' (first | with_reducible assumption | with_reducible apply hU | ((with_reducible apply SqT.of); with_reducible assumption) | ((with_reducible apply same_seqT); with_reducible assumption) | ((with_reducible apply kp_seqT); with_reducible assumption) | ((with_reducible apply Dw.same); with_reducible assumption))); done))
        | ((with_reducible apply R.eq4); focus ((repeat' (first | with_reducible assumption | with_reducible apply hU | ((with_reducible apply SqT.of); with_reducible assumption) | ((with_reducible apply same_seqT); with_reducible assumption) | ((with_reducible apply kp_seqT); with_reducible assumption) | ((with_reducible apply Dw.same); with_reducible assumption))); done))
        | ((with_reducible apply R.eq3); focus ((repeat' (first | with_reducible assumption | with_reducible apply hU | ((with_reducible apply SqT.of); with_reducible assumption) | ((with_reducible apply same_seqT); with_reducible assumption) | ((with_reducible apply kp_seqT); with_reducible assumption) | ((with_reducible apply Dw.same); with_reducible assumption))); done))
        | ((with_reducible apply R.eq2); focus ((repeat' (first | with_reducible assumption | with_reducible apply hU | ((with_reducible apply SqT.of); with_reducible assumption) | ((with_reducible apply same_seqT); with_reducible assumption) | ((with_reducible apply kp_seqT); with_reducible assumption) | ((with_reducible apply Dw.same); with_reducible assumption))); done))
        | with_reducible apply uLawNext
        | with_reducible apply uLawWide
        | with_reducible apply uLawChange
        | with_reducible apply uMultiply
        | with_reducible apply uDeterminant
        | with_reducible apply uApply
        | with_reducible apply uNegative
        | with_reducible apply uLawAt
        | with_reducible apply uLawMul
        | with_reducible apply uInverse
        | ((with_reducible apply R.nw); intro HN tn sn ht)
        | with_reducible apply iteT
        | with_reducible apply iteF
        | ((with_reducible apply SqT.of); with_reducible assumption)
        | ((with_reducible apply SqL.of); with_reducible assumption)
        | ((with_reducible apply same_seqT); with_reducible assumption)
        | ((with_reducible apply sameB); with_reducible assumption)
        | ((with_reducible apply same_at); with_reducible assumption)
        | ((with_reducible apply kp_seqT); with_reducible assumption)
        | ((with_reducible apply Same.seq); with_reducible assumption)
        | ((with_reducible apply Kp.seqL); with_reducible assumption)
        | ((with_reducible apply fresh_ne); with_reducible assumption)
        | ((with_reducible apply Dw.same); with_reducible assumption)
        | ((with_reducible apply R.isEq); exact eq_true (by first | decide | omega))
        | ((with_reducible apply R.isLt); first | decide | omega)
        | ((with_reducible apply R.isLtI); first | decide | omega)
        | ((with_reducible apply R.isLeI); first | decide | omega)
        | ((with_reducible apply R.cdiv); exact rfl)
        | ((with_reducible apply R.cpow); exact rfl)
        | with_reducible apply hU
        | ((with_reducible apply wayNF); first | exact rfl | exact ⟨rfl, rfl⟩ | exact ⟨rfl, rfl, rfl⟩ | exact ⟨rfl, rfl, rfl, rfl⟩)
        | with_reducible apply R.forE
        | with_reducible apply R.rng1
        | with_reducible apply R.rng2
        | with_reducible apply R.rg1
        | with_reducible apply R.rg2
        | with_reducible apply R.lcE
        | with_reducible apply R.itup
        | with_reducible apply R.ilst
        )
      refine kk _ _ ?_ ?_
      · (repeat' (first | with_reducible exact Same.refl _ | with_reducible assumption | ((with_reducible apply sameB); with_reducible assumption)))
      · rw [ht]
        unfold tv
        rw [m2, m3]
        have e1 : (mpw (p, q, r, s) many.toNat).1 = (v + u * (p - s)) / 2 := by omega
        have e2 : (mpw (p, q, r, s) many.toNat).2.2.2 = (v - u * (p - s)) / 2 := by omega
        rw [e1, e2]
def spLawCell (K : PySem.W.Frag) : Sp := fun vs H Q _ => ∃ (l : Addr) (ns : List Int) (j : Nat), vs = [.ref l, .int (j : Int)] ∧ SqL K H l (ns.map V.int) ∧ ∀ v : Int, Q (.int v) H
theorem okLawCell (T : Txt K mg fa fd) : FnOk P w K mg base CX0 1 (fa 7) (fd 7) ["script", "k"] (spLawCell K) := by
  refine T.F__law_cell.ok scLawCell (fun vs H Q E h => ?_) (fun cdv A outer s H vs Q E hr h => ?_)
  · obtain ⟨l, ns, j, rfl, hS, q⟩ := h
    rfl
  · obtain ⟨l, ns, j, rfl, hS, q⟩ := h
    refine ⟨_, (pss_cons (ps_if (pt_cmp (pc_lt (pv 1) (pe_callB (lenQ K) (by rfl) T.m_len (by decide +kernel) (pa_cons (pv 0) pa_nil))))
      (pss_one (ps_ret (pe_ix (ixL K) (pv 0) (pv 1) (fun _ _ => rfl))))
      pss_nil)
      (pss_one (ps_ret pe_int))), ?_⟩
    refine ⟨_, rfl, _, rfl, _, _, rfl, .inl hS, _, _, rfl, rfl, _, rfl, ite2 (fun e => ?_) (fun e => ?_)⟩
    · have e1 : (j : Int) < ((ns.map V.int).length : Int) := of_decide_eq_true e
      have hj : j < ns.length := by
        rw [List.length_map] at e1
        omega
      exact ⟨_, rfl, _, rfl, _, _, _, _, rfl, rfl, hS, atI_nat (by rw [List.getElem?_map, List.getElem?_eq_getElem hj]; rfl), q _⟩
    · exact q 0
def spLawNumbers (K : PySem.W.Frag) : Sp := fun vs H Q _ => ∃ (c : Int) (m : Nat), vs = [.int c, .int (m : Int)] ∧ m ≤ 100 ∧
  ∀ H' p (ns : List Int), Same H H' → H p = none → H' p = some (.lst (ns.map V.int)) → ns.length = m → (∀ n ∈ ns, 0 ≤ n ∧ n < 1000) → Q (.ref p) H'
theorem okLawNumbers (T : Txt K mg fa fd) : FnOk P w K mg base CX0 1 (fa 8) (fd 8) ["cell", "many"] (spLawNumbers K) := by
  refine T.F__law_numbers.ok scLawNumbers (fun vs H Q E h => ?_) (fun cdv A outer s H vs Q E hr h => ?_)
  · obtain ⟨c, m, rfl, hm, q⟩ := h
    rfl
  · obtain ⟨c, m, rfl, hm, q⟩ := h
    refine ⟨_, (pss_cons (ps_set (i := 2) scLawNumbers.nd rfl (Or.inl rfl) (pe_callB call_abs (by rfl) T.m_abs (by decide +kernel) (pa_cons (pv 0) pa_nil)))
      (pss_cons (ps_set (i := 3) scLawNumbers.nd rfl (Or.inl rfl) (pv 2))
      (pss_cons (ps_set (i := 4) scLawNumbers.nd rfl (Or.inl rfl) (pe_lst pa_nil))
      (pss_cons (ps_for PassesOwn.never rfl (pi_range1 (by rfl) T.m_range (pa_cons (pv 1) pa_nil)) (pg_name (i := 5) scLawNumbers.nd rfl (Or.inl rfl))
      (pss_one (ps_if (PW.pt (pw_and (pt_cmp (pc_ge (pv 3) (pe_op op_pow pe_int pe_int))) (pw_and1 (pt_cmp (pc_gt (pv 2) pe_int)))))
        (pss_cons (ps_expr (pe_bm PySem.F.plainAttrs_list PySem.F.slot_list_append PySem.F.type_list_append mt_append (pv 4) (pa_cons (pe_op op_mod (pe_callTy call_int1 (by rfl) T.m_int (by decide +kernel) (pa_cons (pv 2) pa_nil)) pe_int) pa_nil)))
          (pss_one (ps_set (i := 2) scLawNumbers.nd rfl (Or.inl rfl) (pe_op op_fdiv (pv 2) pe_int))))
        (pss_cons (ps_set (i := 6) scLawNumbers.nd rfl (Or.inl rfl) (pe_op op_mod (pe_callTy call_int1 (by rfl) T.m_int (by decide +kernel) (pa_cons (pe_op op_add (pe_op op_add (pe_op op_mul (pv 3) pe_int) (pe_op op_mul (pv 5) pe_int)) pe_int) pa_nil)) pe_int))
          (pss_cons (ps_set (i := 6) scLawNumbers.nd rfl (Or.inl rfl) (pe_op op_mod (pe_callTy call_int1 (by rfl) T.m_int (by decide +kernel) (pa_cons (pe_op op_add (pe_op op_add (pe_op op_mul (pv 6) (pv 6)) (pe_op op_mul pe_int (pv 5))) pe_int) pa_nil)) pe_int))
          (pss_one (ps_expr (pe_bm PySem.F.plainAttrs_list PySem.F.slot_list_append PySem.F.type_list_append mt_append (pv 4) (pa_cons (pe_op op_mod (pe_callTy call_int1 (by rfl) T.m_int (by decide +kernel) (pa_cons (pe_op op_fdiv (pv 6) pe_int) pa_nil)) pe_int) pa_nil)))))))))
      (pss_one (ps_ret (pv 4))))))), ?_⟩
    refine ⟨_, rfl, _, rfl, _, rfl, Nat.zero_le _, fun o no => ?_⟩
    refine ⟨_, rfl, _, rfl, by omega, by omega, for_range (lo := 0) (n := m) (fun i σ H' => ∃ (rest span : Int) (x5 x6 : Option V) (ns : List Int), σ = [some (.int c), some (.int (m : Int)), some (.int rest), some (.int span), some (.ref o), x5, x6] ∧ Same H H' ∧ H' o = some (.lst (ns.map V.int)) ∧ ns.length = i ∧ ∀ n ∈ ns, 0 ≤ n ∧ n < 1000)
      ⟨_, _, _, _, [], rfl, same_upd no, upd_same, rfl, fun n h => nomatch h⟩ (fun i σ H' hi ⟨rest, span, x5, x6, ns, hσ, hs, ho, hl, hb⟩ => ?_) (fun σ H' ⟨rest, span, x5, x6, ns, hσ, hs, ho, hl, hb⟩ => ?_)⟩
    · subst hσ
      have sz : (ns.map V.int).length < sizeLine := by
        rw [List.length_map]
        exact small1000 (by omega)
      have app : ∀ r : Int, 0 ≤ r → r < 1000 → (upd H' o (.lst (ns.map V.int ++ [V.int r]))) o = some (.lst ((ns ++ [r]).map V.int)) ∧ (ns ++ [r]).length = i + 1 ∧ ∀ n ∈ ns ++ [r], 0 ≤ n ∧ n < 1000 := fun r h0 h1 => by
        refine ⟨by rw [upd_same, List.map_append]; rfl, by rw [List.length_append, hl]; rfl, fun n hn => ?_⟩
        rcases List.mem_append.mp hn with hn | hn
        · exact hb n hn
        · rw [List.mem_singleton.mp hn]
          exact ⟨h0, h1⟩
      refine ⟨_, rfl, _, _, rfl, rfl, ⟨by decide, by decide, by decide⟩, _, _, rfl, rfl, _, rfl, ?_⟩
      have tl : ∀ (D : Ends) (rest' : Int) (x5' x6' : Option V) (r : Int), 0 ≤ r → r < 1000 → (∀ σ' H2, (∃ (rest span : Int) (x5 x6 : Option V) (ns : List Int), σ' = [some (.int c), some (.int (m : Int)), some (.int rest), some (.int span), some (.ref o), x5, x6] ∧ Same H H2 ∧ H2 o = some (.lst (ns.map V.int)) ∧ ns.length = i + 1 ∧ ∀ n ∈ ns, 0 ≤ n ∧ n < 1000) → D.nx σ' H2) → D.nx [some (.int c), some (.int (m : Int)), some (.int rest'), some (.int span), some (.ref o), x5', x6'] (upd H' o (.lst (ns.map V.int ++ [V.int r]))) := fun D rest' x5' x6' r h0 h1 k => by
        obtain ⟨a1, a2, a3⟩ := app r h0 h1
        exact k _ _ ⟨rest', span, x5', x6', _, rfl, same_mut hs no, a1, a2, a3⟩
      have m1 : ∀ z : Int, 0 ≤ z % 1000 ∧ z % 1000 < 1000 := fun z => by omega
      have m2 : ∀ z : Int, 0 ≤ z % 2147483647 ∧ z % 2147483647 < 2147483647 := fun z => by omega
      refine ite2 (fun e => ?_) (fun e => ?_)
      · refine ⟨_, rfl, _, _, rfl, rfl, _, rfl, ite2 (fun e => ?_) (fun e => ?_)⟩
        · refine ⟨_, rfl, .inl ⟨rfl, _, SqL.of ho⟩, _, rfl, .inl ⟨_, rfl, _, _, rfl, rfl, by show (0 : Int) < 1000; decide, _, _, _, rfl, rfl, ho, sz, ?_⟩⟩
          refine ⟨_, rfl, _, _, rfl, rfl, ⟨by decide, by decide⟩, ?_⟩
          obtain ⟨a1, a2, a3⟩ := app (rest % 1000) (m1 _).1 (m1 _).2
          exact ⟨_, _, _, _, _, rfl, same_mut hs no, a1, a2, a3⟩
        · refine ⟨_, rfl, _, _, rfl, rfl, .inr ⟨by decide, by decide⟩, _, rfl, _, _, rfl, rfl, .inr ⟨by decide, by decide⟩, _, _, rfl, rfl, _, _, rfl, rfl, .inl ⟨_, rfl, _, _, rfl, rfl, by show (0 : Int) < 2147483647; decide, ?_⟩⟩
          refine ⟨_, rfl, _, rfl, _, _, rfl, rfl, .inl ?_, _, rfl, _, _, rfl, rfl, .inl ⟨by decide, by decide⟩, _, _, rfl, rfl, _, _, rfl, rfl, .inl ⟨_, rfl, _, _, rfl, rfl, by show (0 : Int) < 2147483629; decide, ?_⟩⟩
          · have h := m2 (span * 48271 + (0 + (i : Int)) * 69621 + 11)
            omega
          refine ⟨_, rfl, .inl ⟨rfl, _, SqL.of ho⟩, _, rfl, _, _, rfl, rfl, ⟨by decide, by decide⟩, .inl ⟨_, rfl, _, _, rfl, rfl, by show (0 : Int) < 1000; decide, _, _, _, rfl, rfl, ho, sz, ?_⟩⟩
          obtain ⟨a1, a2, a3⟩ := app _ (m1 _).1 (m1 _).2
          exact ⟨_, _, _, _, _, rfl, same_mut hs no, a1, a2, a3⟩
      · refine iteF ?_
        refine ⟨_, rfl, _, _, rfl, rfl, .inr ⟨by decide, by decide⟩, _, rfl, _, _, rfl, rfl, .inr ⟨by decide, by decide⟩, _, _, rfl, rfl, _, _, rfl, rfl, .inl ⟨_, rfl, _, _, rfl, rfl, by show (0 : Int) < 2147483647; decide, ?_⟩⟩
        refine ⟨_, rfl, _, rfl, _, _, rfl, rfl, .inl ?_, _, rfl, _, _, rfl, rfl, .inl ⟨by decide, by decide⟩, _, _, rfl, rfl, _, _, rfl, rfl, .inl ⟨_, rfl, _, _, rfl, rfl, by show (0 : Int) < 2147483629; decide, ?_⟩⟩
        · have h := m2 (span * 48271 + (0 + (i : Int)) * 69621 + 11)
          omega
        refine ⟨_, rfl, .inl ⟨rfl, _, SqL.of ho⟩, _, rfl, _, _, rfl, rfl, ⟨by decide, by decide⟩, .inl ⟨_, rfl, _, _, rfl, rfl, by show (0 : Int) < 1000; decide, _, _, _, rfl, rfl, ho, sz, ?_⟩⟩
        obtain ⟨a1, a2, a3⟩ := app _ (m1 _).1 (m1 _).2
        exact ⟨_, _, _, _, _, rfl, same_mut hs no, a1, a2, a3⟩
    · subst hσ
      exact ⟨_, rfl, q _ _ ns hs no ho hl hb⟩
def spLawState (K : PySem.W.Frag) : Sp := fun vs H Q _ => ∃ (l : Addr) (ns : List Int), vs = [.ref l] ∧ SqL K H l (ns.map V.int) ∧ ∀ H' p a, Same H H' → Dw H' p a 0 → Q (.ref p) H'
theorem okLawState (T : Txt K mg fa fd) : FnOk P w K mg base CX0 2 (fa 9) (fd 9) ["script"] (spLawState K) := by
  refine T.F__law_state.ok scLawState (fun vs H Q E h => ?_) (fun cdv A outer s H vs Q E hr h => ?_)
  · obtain ⟨l, ns, rfl, hS, q⟩ := h
    rfl
  · obtain ⟨l, ns, rfl, hS, q⟩ := h
    refine ⟨_, (pss_cons (ps_set (i := 1) scLawState.nd rfl (Or.inl rfl) (pe_lst pa_nil))
      (pss_cons (ps_for PassesOwn.never rfl (pi_range1 (by rfl) T.m_range (pa_cons pe_int pa_nil)) (pg_name (i := 2) scLawState.nd rfl (Or.inl rfl))
      (pss_one (ps_set (i := 1) scLawState.nd rfl (Or.inl rfl) (pe_op op_cat (pv 1) (pe_call (sp := spLawNumbers K) (okLawNumbers T) hr (by rfl) T.G__law_numbers T.F__law_numbers.kp T.B__law_numbers .nil pass0 (pa_cons (pe_op op_add (pe_callB call_abs (by rfl) T.m_abs (by decide +kernel) (pa_cons (pe_call (sp := spLawCell K) (okLawCell T) hr (by rfl) T.G__law_cell T.F__law_cell.kp T.B__law_cell .nil pass0 (pa_cons (pv 0) (pa_cons (pv 2) pa_nil))) pa_nil)) (pe_op op_mul pe_int (pv 2))) (pa_cons pe_int pa_nil)))))))
      (pss_one (ps_ret (pe_lst (pa_cons (pv 1) (pa_cons pe_int pa_nil))))))), ?_⟩
    refine ⟨Nat.zero_le _, fun o no => ?_⟩
    refine ⟨3, rfl, by decide, by decide, for_range (lo := 0) (n := 3) (fun i σ H' => ∃ (o : Addr) (x2 : Option V) (ms : List Int), σ = [some (.ref l), some (.ref o), x2] ∧ Same H H' ∧ H' o = some (.lst (ms.map V.int)) ∧ ms.length = 40 * i ∧ ∀ n ∈ ms, 0 ≤ n ∧ n < 1000)
      ⟨o, none, [], rfl, same_upd no, upd_same, rfl, fun n h => nomatch h⟩ (fun i σ H' hi ⟨o, x2, ms, hσ, hs, ho, hl, hb⟩ => ?_) (fun σ H' ⟨o, x2, ms, hσ, hs, ho, hl, hb⟩ => ?_)⟩
    · subst hσ
      refine ⟨_, rfl, _, rfl, _, rfl, l, ns, i, ?_, hs.seq hS, fun v => ⟨_, rfl, _, rfl, _, _, rfl, rfl, .inl ⟨by decide, by decide⟩, _, _, rfl, rfl, _, 40, rfl, by decide, fun H2 u ks s2 nu hu kl kb => ?_⟩⟩
      · exact congrArg (fun t : Int => [V.ref l, V.int t]) (Int.zero_add _)
      refine ⟨_, _, _, _, rfl, rfl, s2 _ _ ho, hu, ?_, fun w nw => ?_⟩
      · rw [List.length_map, List.length_map]
        exact small200 (by omega)
      refine ⟨w, _, ms ++ ks, rfl, (hs.trans s2).trans (same_upd nw), ?_, ?_, fun n hn => ?_⟩
      · rw [upd_same, List.map_append]
      · rw [List.length_append]
        omega
      · rcases List.mem_append.mp hn with hn | hn
        · exact hb n hn
        · exact kb n hn
    · subst hσ
      refine ⟨_, rfl, by show 2 ≤ sizeLine; decide, fun p np => ?_⟩
      refine q _ p o (hs.trans (same_upd np)) ⟨0, ms, Nat.le_refl 0, ne_of_none ho np, upd_same, ?_, hl, hb⟩
      rw [upd_ne (ne_of_none ho np)]
      exact ho
def spLawNext (_ : PySem.W.Frag) : Sp := fun vs H Q _ => ∃ (p a : Addr) (many : Int) (N : Nat), vs = [.ref p, .int many] ∧ Dw H p a N ∧ N < 1000000000 ∧ 0 < many ∧
  ∀ r H', 0 ≤ r → r < many → Dw H' p a (N + 1) → (∀ b, b ≠ p → H' b = H b) → Q (.int r) H'
theorem uLawNext {K : PySem.W.Frag} {H : Hp} {Q : VK} {E : XK} {vs : List V} {p a : Addr} {N : Nat} {many : Int} (e : vs = [.ref p, .int many]) (d : Dw H p a N) (hN : N < 1000000000) (hm : 0 < many) (q : ∀ r H', 0 ≤ r → r < many → Dw H' p a (N + 1) → Kp p H H' → Q (.int r) H') : spLawNext K vs H Q E :=
  ⟨p, a, many, N, e, d, hN, hm, fun r H' h0 h1 d' f => q r H' h0 h1 d' (frm_kp f)⟩
theorem okLawNext (T : Txt K mg fa fd) : FnOk P w K mg base CX0 1 (fa 10) (fd 10) ["state", "many"] (spLawNext K) := by
  refine T.F__law_next.ok scLawNext (fun vs H Q E h => ?_) (fun cdv A outer s H vs Q E hr h => ?_)
  · obtain ⟨p, a, many, N, rfl, ⟨m, ns, hm, hap, hp, ha, hl, hb⟩, hN, hmany, q⟩ := h
    rfl
  · obtain ⟨p, a, many, N, rfl, ⟨m, ns, hm, hap, hp, ha, hl, hb⟩, hN, hmany, q⟩ := h
    refine ⟨_, (pss_cons (ps_asg (pe_op op_add (pe_ix (ixL K) (pv 0) pe_int (fun _ _ => rfl)) pe_int) (pg_sub (pv 0) pe_int set_list))
      (pss_cons (ps_set (i := 2) scLawNext.nd rfl (Or.inl rfl) (pe_op op_add (pe_ix (ixL K) (pe_ix (ixL K) (pv 0) pe_int (fun _ _ => rfl)) (pe_op op_mod (pe_callTy call_int1 (by rfl) T.m_int (by decide +kernel) (pa_cons (pe_op op_mul (pe_ix (ixL K) (pv 0) pe_int (fun _ _ => rfl)) pe_int) pa_nil)) (pe_callB (lenQ K) (by rfl) T.m_len (by decide +kernel) (pa_cons (pe_ix (ixL K) (pv 0) pe_int (fun _ _ => rfl)) pa_nil))) (fun _ _ => rfl)) (pe_op op_mul (pe_op op_mul pe_int (pe_ix (ixL K) (pv 0) pe_int (fun _ _ => rfl))) (pe_op op_add pe_int (pe_op op_fdiv (pe_ix (ixL K) (pv 0) pe_int (fun _ _ => rfl)) (pe_callB (lenQ K) (by rfl) T.m_len (by decide +kernel) (pa_cons (pe_ix (ixL K) (pv 0) pe_int (fun _ _ => rfl)) pa_nil)))))))
      (pss_one (ps_ret (pe_op op_mod (pe_callTy call_int1 (by rfl) T.m_int (by decide +kernel) (pa_cons (pv 2) pa_nil)) (pv 1)))))), ?_⟩
    have eS : SqL K H p [.ref a, .int (m : Int)] := SqL.of hp
    refine ⟨_, rfl, _, _, _, _, rfl, rfl, eS, atI_nat (j := 1) rfl, _, _, rfl, rfl, _, rfl, _, _, _, 1, rfl, rfl, hp, rfl, ?_⟩
    have h1p : (upd H p (.lst [.ref a, .int ((m : Int) + 1)])) p = some (.lst [.ref a, .int ((m : Int) + 1)]) := upd_same
    have h1a : (upd H p (.lst [.ref a, .int ((m : Int) + 1)])) a = some (.lst (ns.map V.int)) := by
      rw [upd_ne hap]
      exact ha
    have fr : ∀ b, b ≠ p → (upd H p (.lst [.ref a, .int ((m : Int) + 1)])) b = H b := fun b hb => upd_ne hb
    show tSeq _ _ _ _ (upd H p (.lst [.ref a, .int ((m : Int) + 1)]))
    generalize upd H p (.lst [.ref a, .int ((m : Int) + 1)]) = H1 at h1p h1a fr
    have S1 : SqL K H1 p [.ref a, .int ((m : Int) + 1)] := SqL.of h1p
    have A1 : SqL K H1 a (ns.map V.int) := SqL.of h1a
    have hl2 : ((ns.map V.int).length : Int) = 120 := by
      rw [List.length_map, hl]
      rfl
    obtain ⟨x, hx, ex⟩ := at_int (ns := ns) (r := ((m : Int) + 1) * 7 % 120) (by omega) (by omega)
    refine ⟨_, rfl, _, _, _, _, rfl, rfl, S1, atI_nat (j := 0) rfl, _, rfl, _, _, _, _, rfl, rfl, S1, atI_nat (j := 1) rfl, _, _, rfl, rfl, .inr ⟨by decide, by decide⟩, .inl ⟨_, rfl, _, rfl, _, _, _, _, rfl, rfl, S1, atI_nat (j := 0) rfl, _, _, rfl, .inl A1, ?_⟩⟩
    rw [hl2]
    refine ⟨_, _, rfl, rfl, by show (0 : Int) < 120; decide, _, _, _, _, rfl, rfl, A1, ex, ?_⟩
    refine ⟨_, rfl, _, _, _, _, rfl, rfl, S1, atI_nat (j := 1) rfl, _, _, rfl, rfl, .inl ⟨by decide, by decide⟩, _, rfl, _, _, _, _, rfl, rfl, S1, atI_nat (j := 1) rfl, _, rfl, _, _, _, _, rfl, rfl, S1, atI_nat (j := 0) rfl, _, _, rfl, .inl A1, ?_⟩
    rw [hl2]
    refine ⟨_, _, rfl, rfl, ⟨by decide, by decide⟩, _, _, rfl, rfl, _, _, rfl, rfl, .inl ⟨by omega, by omega⟩, _, _, rfl, rfl, ?_⟩
    refine ⟨_, rfl, .inl ⟨_, rfl, _, rfl, _, _, rfl, rfl, hmany, ?_⟩⟩
    exact q _ _ (Int.emod_nonneg _ (by omega)) (Int.emod_lt_of_pos _ hmany) ⟨m + 1, ns, by omega, hap, h1p, h1a, hl, hb⟩ fr
def spLawWide (_ : PySem.W.Frag) : Sp := fun vs H Q _ => ∃ (p a : Addr) (many : Int) (N : Nat), vs = [.ref p, .int many] ∧ Dw H p a N ∧ N < 900000000 ∧ 0 < many ∧
  ∀ r H', 0 ≤ r → r < many → Dw H' p a (N + 6) → (∀ b, b ≠ p → H' b = H b) → Q (.int r) H'
theorem uLawWide {K : PySem.W.Frag} {H : Hp} {Q : VK} {E : XK} {vs : List V} {p a : Addr} {N : Nat} {many : Int} (e : vs = [.ref p, .int many]) (d : Dw H p a N) (hN : N < 900000000) (hm : 0 < many) (q : ∀ r H', 0 ≤ r → r < many → Dw H' p a (N + 6) → Kp p H H' → Q (.int r) H') : spLawWide K vs H Q E :=
  ⟨p, a, many, N, e, d, hN, hm, fun r H' h0 h1 d' f => q r H' h0 h1 d' (frm_kp f)⟩
theorem okLawWide (T : Txt K mg fa fd) : FnOk P w K mg base CX0 2 (fa 11) (fd 11) ["state", "many"] (spLawWide K) := by
  refine T.F__law_wide.ok scLawWide (fun vs H Q E h => ?_) (fun cdv A outer s H vs Q E hr h => ?_)
  · obtain ⟨p, a, many, N, rfl, hD, hN, hmany, q⟩ := h
    rfl
  · obtain ⟨p, a, many, N, rfl, hD, hN, hmany, q⟩ := h
    refine ⟨_, (pss_cons (ps_set (i := 2) scLawWide.nd rfl (Or.inl rfl) pe_int)
      (pss_cons (ps_for PassesOwn.never rfl (pi_range1 (by rfl) T.m_range (pa_cons pe_int pa_nil)) (pg_name (i := 3) scLawWide.nd rfl (Or.inl rfl))
      (pss_one (ps_set (i := 2) scLawWide.nd rfl (Or.inl rfl) (pe_op op_add (pe_op op_mul (pv 2) pe_int) (pe_call (sp := spLawNext K) (okLawNext T) hr (by rfl) T.G__law_next T.F__law_next.kp T.B__law_next .nil pass0 (pa_cons (pv 0) (pa_cons pe_int pa_nil)))))))
      (pss_one (ps_ret (pe_op op_mod (pv 2) (pv 1)))))), ?_⟩
    refine ⟨6, rfl, by decide, by decide, for_range (lo := 0) (n := 6) (fun i σ H' => ∃ (t : Int) (x3 : Option V), σ = [some (.ref p), some (.int many), some (.int t), x3] ∧ Dw H' p a (N + i) ∧ ∀ b, b ≠ p → H' b = H b)
      ⟨0, none, rfl, hD, fun _ _ => rfl⟩ (fun i σ H' hi ⟨t, x3, hσ, hd, fr⟩ => ?_) (fun σ H' ⟨t, x3, hσ, hd, fr⟩ => ?_)⟩
    · subst hσ
      refine ⟨_, rfl, _, _, rfl, rfl, .inr ⟨by decide, by decide⟩, _, rfl, p, a, 1000, N + i, rfl, hd, by omega, by decide, fun r H2 h0 h1 hd2 fr2 => ?_⟩
      refine ⟨_, _, rfl, rfl, _, _, rfl, ?_, fun b hb => (fr2 b hb).trans (fr b hb)⟩
      exact hd2
    · subst hσ
      refine ⟨_, rfl, _, rfl, _, _, rfl, rfl, hmany, ?_⟩
      exact q _ _ (Int.emod_nonneg _ (by omega)) (Int.emod_lt_of_pos _ hmany) hd fr
def spLawMul (K : PySem.W.Frag) : Sp := fun vs H Q _ => ∃ (am an : Addr) (p q r s p2 q2 r2 s2 : Int) (N : Nat), vs = [.ref am, .ref an] ∧ SqT K H am [.int p, .int q, .int r, .int s] ∧ SqT K H an [.int p2, .int q2, .int r2, .int s2] ∧ Bd N p ∧ Bd N q ∧ Bd N r ∧ Bd N s ∧ Bd N p2 ∧ Bd N q2 ∧ Bd N r2 ∧ Bd N s2 ∧ N ≤ 400000 ∧ (R.Nw H [.int (p * p2 + q * r2), .int (p * q2 + q * s2), .int (r * p2 + s * r2), .int (r * q2 + s * s2)] Q)
theorem uLawMul {K : PySem.W.Frag} {H : Hp} {Q : VK} {E : XK} {vs : List V} {am an : Addr} {p q r s p2 q2 r2 s2 : Int} {n0 n1 n2 n3 n4 n5 n6 n7 : Nat} (e : vs = [.ref am, .ref an]) (s0 : SqT K H am [.int p, .int q, .int r, .int s]) (s1 : SqT K H an [.int p2, .int q2, .int r2, .int s2]) (b0 : Bd n0 p) (b1 : Bd n1 q) (b2 : Bd n2 r) (b3 : Bd n3 s) (b4 : Bd n4 p2) (b5 : Bd n5 q2) (b6 : Bd n6 r2) (b7 : Bd n7 s2) (l : (n0 + n1 + n2 + n3 + n4 + n5 + n6 + n7 ≤ 400000) = True) (kk : R.Nw H [.int (p * p2 + q * r2), .int (p * q2 + q * s2), .int (r * p2 + s * r2), .int (r * q2 + s * s2)] Q) : spLawMul K vs H Q E :=
  have l := of_eq_true l
  ⟨am, an, p, q, r, s, p2, q2, r2, s2, n0 + n1 + n2 + n3 + n4 + n5 + n6 + n7, e, s0, s1, b0.mono (by omega), b1.mono (by omega), b2.mono (by omega), b3.mono (by omega), b4.mono (by omega), b5.mono (by omega), b6.mono (by omega), b7.mono (by omega), l, kk⟩
theorem okLawMul (T : Txt K mg fa fd) : FnOk P w K mg base CX0 1 (fa 12) (fd 12) ["m", "n"] (spLawMul K) := by
  refine T.F__law_mul.ok scLawMul (fun vs H Q E h => ?_) (fun cdv A outer s H vs Q E hr h => ?_)
  · obtain ⟨am, an, p, q, r, s, p2, q2, r2, s2, N, rfl, h_am, h_an, b_p, b_q, b_r, b_s, b_p2, b_q2, b_r2, b_s2, hN, kk⟩ := h
    rfl
  · obtain ⟨am, an, p, q, r, s, p2, q2, r2, s2, N, rfl, h_am, h_an, b_p, b_q, b_r, b_s, b_p2, b_q2, b_r2, b_s2, hN, kk⟩ := h
    refine ⟨_, (pss_cons (ps_set (i := 2) scLawMul.nd rfl (Or.inl rfl) (pe_lst (pa_cons (pe_op op_add (pe_op op_mulW (pe_ix (ixT K) (pv 0) pe_int (fun _ _ => rfl)) (pe_ix (ixT K) (pv 1) pe_int (fun _ _ => rfl))) (pe_op op_mulW (pe_ix (ixT K) (pv 0) pe_int (fun _ _ => rfl)) (pe_ix (ixT K) (pv 1) pe_int (fun _ _ => rfl)))) (pa_cons (pe_op op_add (pe_op op_mulW (pe_ix (ixT K) (pv 0) pe_int (fun _ _ => rfl)) (pe_ix (ixT K) (pv 1) pe_int (fun _ _ => rfl))) (pe_op op_mulW (pe_ix (ixT K) (pv 0) pe_int (fun _ _ => rfl)) (pe_ix (ixT K) (pv 1) pe_int (fun _ _ => rfl)))) pa_nil))))
      (pss_one (ps_ret (pe_callTy (tupQ K) (by rfl) T.m_tuple (by decide +kernel) (pa_cons (pe_op op_cat (pv 2) (pe_lst (pa_cons (pe_op op_add (pe_op op_mulW (pe_ix (ixT K) (pv 0) pe_int (fun _ _ => rfl)) (pe_ix (ixT K) (pv 1) pe_int (fun _ _ => rfl))) (pe_op op_mulW (pe_ix (ixT K) (pv 0) pe_int (fun _ _ => rfl)) (pe_ix (ixT K) (pv 1) pe_int (fun _ _ => rfl)))) (pa_cons (pe_op op_add (pe_op op_mulW (pe_ix (ixT K) (pv 0) pe_int (fun _ _ => rfl)) (pe_ix (ixT K) (pv 1) pe_int (fun _ _ => rfl))) (pe_op op_mulW (pe_ix (ixT K) (pv 0) pe_int (fun _ _ => rfl)) (pe_ix (ixT K) (pv 1) pe_int (fun _ _ => rfl)))) pa_nil)))) pa_nil))))), ?_⟩
    repeat' (first
      | with_reducible apply R.var
      | ((with_reducible apply R.isEq); exact rfl)
      | with_reducible apply R.op
      | with_reducible apply R.i2
      | with_reducible apply R.i0
      | with_reducible apply R.con
      | with_reducible apply R.cons
      | with_reducible apply R.nil
      | with_reducible apply R.gcons
      | with_reducible apply R.gname
      | ((with_reducible apply R.ixT); (focus ((repeat' (first | with_reducible assumption | with_reducible apply hU | ((with_reducible apply SqT.of); with_reducible assumption) | ((with_reducible apply same_seqT); with_reducible assumption) | ((with_reducible apply kp_seqT); with_reducible assumption) | ((with_reducible apply Dw.same); with_reducible assumption))); done)); exact rfl)
      | ((with_reducible apply R.ixL); (focus ((repeat' (first | with_reducible assumption | ((with_reducible apply SqL.of); with_reducible assumption) | ((with_reducible apply Same.seq); with_reducible assumption) | ((with_reducible apply Kp.seqL); with_reducible assumption) | ((with_reducible apply fresh_ne); with_reducible assumption) | ((with_reducible apply Dw.same); with_reducible assumption))); done)); exact rfl)
      | with_reducible assumption
      | with_reducible apply Bd.mulW
      | with_reducible apply Bd.mul
      | with_reducible apply Bd.add
      | with_reducible apply Bd.sub
      | ((with_reducible apply Bd.l8); exact eq_true (by decide))
      | ((with_reducible apply Bd.lit); exact eq_true (by decide))
      | with_reducible apply Bd.neg
      | with_reducible apply Bd.div
      | ((with_reducible apply Bd.om); omega)
      | ((with_reducible apply R.isLe); first | decide | omega)
      | with_reducible apply R.un
      | with_reducible apply R.u1
      | with_reducible apply R.tup
      | with_reducible apply R.lst
      | with_reducible apply R.call
      | with_reducible apply R.callB
      | with_reducible apply R.gtup
      | with_reducible apply R.gnil
      | with_reducible apply R.seq
      | with_reducible apply R.asg
      | with_reducible apply R.ret
      | with_reducible apply R.next
      | with_reducible apply R.drop
      | with_reducible apply R.par
      | with_reducible apply R.par2
      | with_reducible apply R.ifs
      | with_reducible apply R.tif
      | with_reducible apply R.test
      | with_reducible apply R.tb'
      | with_reducible apply R.isbl
      | with_reducible apply R.cmp
      | with_reducible apply R.t2i
      | with_reducible apply R.intp
      | with_reducible apply R.and
      | with_reducible apply R.or
      | with_reducible apply R.not
      | with_reducible apply R.andV
      | with_reducible apply R.orV
      | with_reducible apply R.notV
      | with_reducible apply R.chain
      | with_reducible apply R.tupL
      | with_reducible apply R.lstL
      | with_reducible apply R.cat
      | with_reducible apply R.isiT
      | with_reducible apply R.isiTup
      | with_reducible apply R.isiLst
      | with_reducible apply R.nwT
      | with_reducible apply R.nwL
      | ((with_reducible apply R.mt); intro HN tn sn nn ht)
      | ((with_reducible apply R.ml); intro HN tn sn nn ht)
      | ((with_reducible apply R.ne4); focus ((repeat' (first | with_reducible assumption | with_reducible apply hU | ((with_reducible apply SqT.of); with_reducible assumption) | ((with_reducible apply same_seqT); with_reducible assumption) | ((with_reducible apply kp_seqT); with_reducible assumption) | ((with_reducible apply Dw.same); with_reducible assumption))); done))
      | ((with_reducible apply R.ne3); focus ((repeat' (first | with_reducible assumption | with_reducible apply hU | ((with_reducible apply SqT.of); with_reducible assumption) | ((with_reducible apply same_seqT); with_reducible assumption) | ((with_reducible apply kp_seqT); with_reducible assumption) | ((with_reducible apply Dw.same); with_reducible assumption))); done))
      | ((with_reducible apply R.ne2); focus ((repeat' (first | with_reducible assumption | with_reducible apply hU | ((with_reducible apply SqT.of); with_reducible assumption) | ((with_reducible apply same_seqT); with_reducible assumption) | ((with_reducible apply kp_seqT); with_reducible assumption) | ((with_reducible apply Dw.same); with_reducible assumption))); done))
      | ((with_reducible apply R.eq4); focus ((repeat' (first | with_reducible assumption | with_reducible apply hU | ((with_reducible apply SqT.of); with_reducible assumption) | ((with_reducible apply same_seqT); with_reducible assumption) | ((with_reducible apply kp_seqT); with_reducible assumption) | ((with_reducible apply Dw.same); with_reducible assumption))); done))
      | ((with_reducible apply R.eq3); focus ((repeat' (first | with_reducible assumption | with_reducible apply hU | ((with_reducible apply SqT.of); with_reducible assumption) | ((with_reducible apply same_seqT); with_reducible assumption) | ((with_reducible apply kp_seqT); with_reducible assumption) | ((with_reducible apply Dw.same); with_reducible assumption))); done))
      | ((with_reducible apply R.eq2); focus ((repeat' (first | with_reducible assumption | with_reducible apply hU | ((with_reducible apply SqT.of); with_reducible assumption) | ((with_reducible apply same_seqT); with_reducible assumption) | ((with_reducible apply kp_seqT); with_reducible assumption) | ((with_reducible apply Dw.same); with_reducible assumption))); done))
      | with_reducible apply uLawNext
      | with_reducible apply uLawWide
      | with_reducible apply uLawChange
      | with_reducible apply uMultiply
      | with_reducible apply uDeterminant
      | with_reducible apply uApply
      | with_reducible apply uNegative
      | with_reducible apply uLawAt
      | with_reducible apply uInverse
      | ((with_reducible apply R.nw); intro HN tn sn ht)
      | with_reducible apply iteT
      | with_reducible apply iteF
      | ((with_reducible apply SqT.of); with_reducible assumption)
      | ((with_reducible apply SqL.of); with_reducible assumption)
      | ((with_reducible apply same_seqT); with_reducible assumption)
      | ((with_reducible apply sameB); with_reducible assumption)
      | ((with_reducible apply same_at); with_reducible assumption)
      | ((with_reducible apply kp_seqT); with_reducible assumption)
      | ((with_reducible apply Same.seq); with_reducible assumption)
      | ((with_reducible apply Kp.seqL); with_reducible assumption)
      | ((with_reducible apply fresh_ne); with_reducible assumption)
      | ((with_reducible apply Dw.same); with_reducible assumption)
      | ((with_reducible apply R.isEq); exact eq_true (by first | decide | omega))
      | ((with_reducible apply R.isLt); first | decide | omega)
      | ((with_reducible apply R.isLtI); first | decide | omega)
      | ((with_reducible apply R.isLeI); first | decide | omega)
      | ((with_reducible apply R.cdiv); exact rfl)
      | ((with_reducible apply R.cpow); exact rfl)
      | with_reducible apply hU
      | ((with_reducible apply wayNF); first | exact rfl | exact ⟨rfl, rfl⟩ | exact ⟨rfl, rfl, rfl⟩ | exact ⟨rfl, rfl, rfl, rfl⟩)
      | with_reducible apply R.forE
      | with_reducible apply R.rng1
      | with_reducible apply R.rng2
      | with_reducible apply R.rg1
      | with_reducible apply R.rg2
      | with_reducible apply R.lcE
      | with_reducible apply R.itup
      | with_reducible apply R.ilst
      )
    all_goals first | omega | exact kk | (refine kk _ _ ?_ (by assumption); (repeat' (first | with_reducible exact Same.refl _ | with_reducible assumption | ((with_reducible apply sameB); with_reducible assumption))))
def spLawAt (K : PySem.W.Frag) : Sp := fun vs H Q _ => ∃ (am : Addr) (p q r s x y : Int) (N : Nat), vs = [.ref am, .int x, .int y] ∧ SqT K H am [.int p, .int q, .int r, .int s] ∧ Bd N p ∧ Bd N q ∧ Bd N r ∧ Bd N s ∧ Bd N x ∧ Bd N y ∧ N ≤ 400000 ∧ (R.Nw H [.int (p * x + q * y), .int (r * x + s * y)] Q)
theorem uLawAt {K : PySem.W.Frag} {H : Hp} {Q : VK} {E : XK} {vs : List V} {am : Addr} {p q r s x y : Int} {n0 n1 n2 n3 n4 n5 : Nat} (e : vs = [.ref am, .int x, .int y]) (s0 : SqT K H am [.int p, .int q, .int r, .int s]) (b0 : Bd n0 p) (b1 : Bd n1 q) (b2 : Bd n2 r) (b3 : Bd n3 s) (b4 : Bd n4 x) (b5 : Bd n5 y) (l : (n0 + n1 + n2 + n3 + n4 + n5 ≤ 400000) = True) (kk : R.Nw H [.int (p * x + q * y), .int (r * x + s * y)] Q) : spLawAt K vs H Q E :=
  have l := of_eq_true l
  ⟨am, p, q, r, s, x, y, n0 + n1 + n2 + n3 + n4 + n5, e, s0, b0.mono (by omega), b1.mono (by omega), b2.mono (by omega), b3.mono (by omega), b4.mono (by omega), b5.mono (by omega), l, kk⟩
theorem okLawAt (T : Txt K mg fa fd) : FnOk P w K mg base CX0 1 (fa 13) (fd 13) ["m", "x", "y"] (spLawAt K) := by
  refine T.F__law_at.ok scLawAt (fun vs H Q E h => ?_) (fun cdv A outer s H vs Q E hr h => ?_)
  · obtain ⟨am, p, q, r, s, x, y, N, rfl, h_am, b_p, b_q, b_r, b_s, b_x, b_y, hN, kk⟩ := h
    rfl
  · obtain ⟨am, p, q, r, s, x, y, N, rfl, h_am, b_p, b_q, b_r, b_s, b_x, b_y, hN, kk⟩ := h
    refine ⟨_, (pss_one (ps_ret (pe_tup (pa_cons (pe_op op_add (pe_op op_mulW (pe_ix (ixT K) (pv 0) pe_int (fun _ _ => rfl)) (pv 1)) (pe_op op_mulW (pe_ix (ixT K) (pv 0) pe_int (fun _ _ => rfl)) (pv 2))) (pa_cons (pe_op op_add (pe_op op_mulW (pe_ix (ixT K) (pv 0) pe_int (fun _ _ => rfl)) (pv 1)) (pe_op op_mulW (pe_ix (ixT K) (pv 0) pe_int (fun _ _ => rfl)) (pv 2))) pa_nil))))), ?_⟩
    repeat' (first
      | with_reducible apply R.var
      | ((with_reducible apply R.isEq); exact rfl)
      | with_reducible apply R.op
      | with_reducible apply R.i2
      | with_reducible apply R.i0
      | with_reducible apply R.con
      | with_reducible apply R.cons
      | with_reducible apply R.nil
      | with_reducible apply R.gcons
      | with_reducible apply R.gname
      | ((with_reducible apply R.ixT); (focus ((repeat' (first | with_reducible assumption | with_reducible apply hU | ((with_reducible apply SqT.of); with_reducible assumption) | ((with_reducible apply same_seqT); with_reducible assumption) | ((with_reducible apply kp_seqT); with_reducible assumption) | ((with_reducible apply Dw.same); with_reducible assumption))); done)); exact rfl)
      | ((with_reducible apply R.ixL); (focus ((repeat' (first | with_reducible assumption | ((with_reducible apply SqL.of); with_reducible assumption) | ((with_reducible apply Same.seq); with_reducible assumption) | ((with_reducible apply Kp.seqL); with_reducible assumption) | ((with_reducible apply fresh_ne); with_reducible assumption) | ((with_reducible apply Dw.same); with_reducible assumption))); done)); exact rfl)
      | with_reducible assumption
      | with_reducible apply Bd.mulW
      | with_reducible apply Bd.mul
      | with_reducible apply Bd.add
      | with_reducible apply Bd.sub
      | ((with_reducible apply Bd.l8); exact eq_true (by decide))
      | ((with_reducible apply Bd.lit); exact eq_true (by decide))
      | with_reducible apply Bd.neg
      | with_reducible apply Bd.div
      | ((with_reducible apply Bd.om); omega)
      | ((with_reducible apply R.isLe); first | decide | omega)
      | with_reducible apply R.un
      | with_reducible apply R.u1
      | with_reducible apply R.tup
      | with_reducible apply R.lst
      | with_reducible apply R.call
      | with_reducible apply R.callB
      | with_reducible apply R.gtup
      | with_reducible apply R.gnil
      | with_reducible apply R.seq
      | with_reducible apply R.asg
      | with_reducible apply R.ret
      | with_reducible apply R.next
      | with_reducible apply R.drop
      | with_reducible apply R.par
      | with_reducible apply R.par2
      | with_reducible apply R.ifs
      | with_reducible apply R.tif
      | with_reducible apply R.test
      | with_reducible apply R.tb'
      | with_reducible apply R.isbl
      | with_reducible apply R.cmp
      | with_reducible apply R.t2i
      | with_reducible apply R.intp
      | with_reducible apply R.and
      | with_reducible apply R.or
      | with_reducible apply R.not
      | with_reducible apply R.andV
      | with_reducible apply R.orV
      | with_reducible apply R.notV
      | with_reducible apply R.chain
      | with_reducible apply R.tupL
      | with_reducible apply R.lstL
      | with_reducible apply R.cat
      | with_reducible apply R.isiT
      | with_reducible apply R.isiTup
      | with_reducible apply R.isiLst
      | with_reducible apply R.nwT
      | with_reducible apply R.nwL
      | ((with_reducible apply R.mt); intro HN tn sn nn ht)
      | ((with_reducible apply R.ml); intro HN tn sn nn ht)
      | ((with_reducible apply R.ne4); focus ((repeat' (first | with_reducible assumption | with_reducible apply hU | ((with_reducible apply SqT.of); with_reducible assumption) | ((with_reducible apply same_seqT); with_reducible assumption) | ((with_reducible apply kp_seqT); with_reducible assumption) | ((with_reducible apply Dw.same); with_reducible assumption))); done))
      | ((with_reducible apply R.ne3); focus ((repeat' (first | with_reducible assumption | with_reducible apply hU | ((with_reducible apply SqT.of); with_reducible assumption) | ((with_reducible apply same_seqT); with_reducible assumption) | ((with_reducible apply kp_seqT); with_reducible assumption) | ((with_reducible apply Dw.same); with_reducible assumption))); done))
      | ((with_reducible apply R.ne2); focus ((repeat' (first | with_reducible assumption | with_reducible apply hU | ((with_reducible apply SqT.of); with_reducible assumption) | ((with_reducible apply same_seqT); with_reducible assumption) | ((with_reducible apply kp_seqT); with_reducible assumption) | ((with_reducible apply Dw.same); with_reducible assumption))); done))
      | ((with_reducible apply R.eq4); focus ((repeat' (first | with_reducible assumption | with_reducible apply hU | ((with_reducible apply SqT.of); with_reducible assumption) | ((with_reducible apply same_seqT); with_reducible assumption) | ((with_reducible apply kp_seqT); with_reducible assumption) | ((with_reducible apply Dw.same); with_reducible assumption))); done))
      | ((with_reducible apply R.eq3); focus ((repeat' (first | with_reducible assumption | with_reducible apply hU | ((with_reducible apply SqT.of); with_reducible assumption) | ((with_reducible apply same_seqT); with_reducible assumption) | ((with_reducible apply kp_seqT); with_reducible assumption) | ((with_reducible apply Dw.same); with_reducible assumption))); done))
      | ((with_reducible apply R.eq2); focus ((repeat' (first | with_reducible assumption | with_reducible apply hU | ((with_reducible apply SqT.of); with_reducible assumption) | ((with_reducible apply same_seqT); with_reducible assumption) | ((with_reducible apply kp_seqT); with_reducible assumption) | ((with_reducible apply Dw.same); with_reducible assumption))); done))
      | with_reducible apply uLawNext
      | with_reducible apply uLawWide
      | with_reducible apply uLawChange
      | with_reducible apply uMultiply
      | with_reducible apply uDeterminant
      | with_reducible apply uApply
      | with_reducible apply uNegative
      | with_reducible apply uLawMul
      | with_reducible apply uInverse
      | ((with_reducible apply R.nw); intro HN tn sn ht)
      | with_reducible apply iteT
      | with_reducible apply iteF
      | ((with_reducible apply SqT.of); with_reducible assumption)
      | ((with_reducible apply SqL.of); with_reducible assumption)
      | ((with_reducible apply same_seqT); with_reducible assumption)
      | ((with_reducible apply sameB); with_reducible assumption)
      | ((with_reducible apply same_at); with_reducible assumption)
      | ((with_reducible apply kp_seqT); with_reducible assumption)
      | ((with_reducible apply Same.seq); with_reducible assumption)
      | ((with_reducible apply Kp.seqL); with_reducible assumption)
      | ((with_reducible apply fresh_ne); with_reducible assumption)
      | ((with_reducible apply Dw.same); with_reducible assumption)
      | ((with_reducible apply R.isEq); exact eq_true (by first | decide | omega))
      | ((with_reducible apply R.isLt); first | decide | omega)
      | ((with_reducible apply R.isLtI); first | decide | omega)
      | ((with_reducible apply R.isLeI); first | decide | omega)
      | ((with_reducible apply R.cdiv); exact rfl)
      | ((with_reducible apply R.cpow); exact rfl)
      | with_reducible apply hU
      | ((with_reducible apply wayNF); first | exact rfl | exact ⟨rfl, rfl⟩ | exact ⟨rfl, rfl, rfl⟩ | exact ⟨rfl, rfl, rfl, rfl⟩)
      | with_reducible apply R.forE
      | with_reducible apply R.rng1
      | with_reducible apply R.rng2
      | with_reducible apply R.rg1
      | with_reducible apply R.rg2
      | with_reducible apply R.lcE
      | with_reducible apply R.itup
      | with_reducible apply R.ilst
      )
    all_goals first | omega | exact kk | (refine kk _ _ ?_ (by assumption); (repeat' (first | with_reducible exact Same.refl _ | with_reducible assumption | ((with_reducible apply sameB); with_reducible assumption))))
def Lc4 (i : Nat) (m1 m2 m3 m4 : Int) : Prop := m1 * m4 - m2 * m3 = 1 ∧ m1.natAbs ≤ 3 ^ i ∧ m2.natAbs ≤ 3 ^ i ∧ m3.natAbs ≤ 3 ^ i ∧ m4.natAbs ≤ 3 ^ i
def spLawChange (K : PySem.W.Frag) : Sp := fun vs H Q _ => ∃ (p a : Addr) (N : Nat) (many : Int), vs = [.ref p, .int many] ∧ Dw H p a N ∧ N < 100000 ∧ 0 ≤ many ∧ many ≤ 10 ∧
  ∀ H' t m1 m2 m3 m4, Dw H' p a (N + 31) → Kp p H H' → SqT K H' t [.int m1, .int m2, .int m3, .int m4] → Lc4 many.toNat m1 m2 m3 m4 → Q (.ref t) H'
theorem uLawChange {K : PySem.W.Frag} {H : Hp} {Q : VK} {E : XK} {vs : List V} {p a : Addr} {N : Nat} {many : Int} (e : vs = [.ref p, .int many]) (d : Dw H p a N) (hN : N < 100000) (h0 : 0 ≤ many) (h1 : many ≤ 10)
    (kk : ∀ H' t m1 m2 m3 m4, Dw H' p a (N + 31) → Kp p H H' → SqT K H' t [.int m1, .int m2, .int m3, .int m4] → Lc4 many.toNat m1 m2 m3 m4 → Q (.ref t) H') : spLawChange K vs H Q E := ⟨p, a, N, many, e, d, hN, h0, h1, kk⟩
theorem Lc4.mono {i j : Nat} {m1 m2 m3 m4 : Int} (h : Lc4 i m1 m2 m3 m4) (l : i ≤ j) : Lc4 j m1 m2 m3 m4 := by
  have e : 3 ^ i ≤ 3 ^ j := Nat.pow_le_pow_right (by decide) l
  obtain ⟨h1, h2, h3, h4, h5⟩ := h
  exact ⟨h1, Nat.le_trans h2 e, Nat.le_trans h3 e, Nat.le_trans h4 e, Nat.le_trans h5 e⟩
theorem Lc4.bd {i : Nat} {m1 m2 m3 m4 : Int} (h : Lc4 i m1 m2 m3 m4) (l : i ≤ 10) : Bd 16 m1 ∧ Bd 16 m2 ∧ Bd 16 m3 ∧ Bd 16 m4 := by
  obtain ⟨h1, h2, h3, h4, h5⟩ := h.mono l
  exact ⟨Bd.of h2 (by decide), Bd.of h3 (by decide), Bd.of h4 (by decide), Bd.of h5 (by decide)⟩
theorem two3 {i : Nat} {m x t : Int} (h1 : m.natAbs ≤ 3 ^ i) (h2 : x.natAbs ≤ 3 ^ i) (t1 : -2 ≤ t) (t2 : t ≤ 2) : (m * t + x).natAbs ≤ 3 ^ (i + 1) := by
  have e : (m * t).natAbs ≤ 3 ^ i * 2 := by
    rw [Int.natAbs_mul]
    exact Nat.mul_le_mul h1 (by omega)
  rw [Nat.pow_succ]
  omega
theorem Lc4.s1 {i : Nat} {m1 m2 m3 m4 t : Int} (h : Lc4 i m1 m2 m3 m4) (t1 : -2 ≤ t) (t2 : t ≤ 2) : Lc4 (i + 1) (m1 * 1 + m2 * 0) (m1 * t + m2 * 1) (m3 * 1 + m4 * 0) (m3 * t + m4 * 1) := by
  have k := h.mono (Nat.le_succ i)
  obtain ⟨h1, h2, h3, h4, h5⟩ := h
  obtain ⟨k1, k2, k3, k4, k5⟩ := k
  rw [Int.mul_one, Int.mul_one, Int.mul_one, Int.mul_one, Int.mul_zero, Int.mul_zero, Int.add_zero, Int.add_zero]
  refine ⟨?_, k2, two3 h2 h3 t1 t2, k4, two3 h4 h5 t1 t2⟩
  grind
theorem Lc4.s2 {i : Nat} {m1 m2 m3 m4 t : Int} (h : Lc4 i m1 m2 m3 m4) (t1 : -2 ≤ t) (t2 : t ≤ 2) : Lc4 (i + 1) (m1 * 1 + m2 * t) (m1 * 0 + m2 * 1) (m3 * 1 + m4 * t) (m3 * 0 + m4 * 1) := by
  have k := h.mono (Nat.le_succ i)
  obtain ⟨h1, h2, h3, h4, h5⟩ := h
  obtain ⟨k1, k2, k3, k4, k5⟩ := k
  rw [Int.mul_one, Int.mul_one, Int.mul_one, Int.mul_one, Int.mul_zero, Int.mul_zero, Int.zero_add, Int.zero_add, Int.add_comm m1, Int.add_comm m3]
  refine ⟨?_, two3 h3 h2 t1 t2, k3, two3 h5 h4 t1 t2, k5⟩
  grind
theorem Lc4.s3 {i : Nat} {m1 m2 m3 m4 : Int} (h : Lc4 i m1 m2 m3 m4) : Lc4 (i + 1) (m1 * 0 + m2 * 1) (m1 * (-1) + m2 * 0) (m3 * 0 + m4 * 1) (m3 * (-1) + m4 * 0) := by
  have k := h.mono (Nat.le_succ i)
  obtain ⟨h1, h2, h3, h4, h5⟩ := h
  obtain ⟨k1, k2, k3, k4, k5⟩ := k
  refine ⟨by grind, by omega, by omega, by omega, by omega⟩
theorem okLawChange (T : Txt K mg fa fd) : FnOk P w K mg base CX0 2 (fa 14) (fd 14) ["state", "many"] (spLawChange K) := by
  refine T.F__law_change.ok scLawChange (fun vs H Q E h => ?_) (fun cdv A outer s H vs Q E hr h => ?_)
  · obtain ⟨p, a, N, many, rfl, d, hN, h0, h10, kk⟩ := h
    rfl
  · obtain ⟨p, a, N, many, rfl, d, hN, h0, h10, kk⟩ := h
    refine ⟨_, (pss_cons (ps_set (i := 2) scLawChange.nd rfl (Or.inl rfl) (pe_tup (pa_cons pe_int (pa_cons pe_int (pa_cons pe_int (pa_cons pe_int pa_nil))))))
      (pss_cons (ps_for PassesOwn.never rfl (pi_range1 (by rfl) T.m_range (pa_cons (pe_call (sp := spLawNext K) (okLawNext T) hr (by rfl) T.G__law_next T.F__law_next.kp T.B__law_next .nil pass0 (pa_cons (pv 0) (pa_cons (pe_op op_add (pv 1) pe_int) pa_nil))) pa_nil)) (pg_name (i := 3) scLawChange.nd rfl (Or.inl rfl))
      (pss_cons (ps_set (i := 4) scLawChange.nd rfl (Or.inl rfl) (pe_op op_sub (pe_call (sp := spLawNext K) (okLawNext T) hr (by rfl) T.G__law_next T.F__law_next.kp T.B__law_next .nil pass0 (pa_cons (pv 0) (pa_cons pe_int pa_nil))) pe_int))
        (pss_one (ps_set (i := 2) scLawChange.nd rfl (Or.inl rfl) (pe_call (sp := spLawMul K) (okLawMul T) hr (by rfl) T.G__law_mul T.F__law_mul.kp T.B__law_mul .nil pass0 (pa_cons (pv 2) (pa_cons (pe_ix (ixL K) (pe_lst (pa_cons (pe_tup (pa_cons pe_int (pa_cons (pv 4) (pa_cons pe_int (pa_cons pe_int pa_nil))))) (pa_cons (pe_tup (pa_cons pe_int (pa_cons pe_int (pa_cons (pv 4) (pa_cons pe_int pa_nil))))) (pa_cons (pe_tup (pa_cons pe_int (pa_cons (pe_un un_neg pe_int) (pa_cons pe_int (pa_cons pe_int pa_nil))))) pa_nil)))) (pe_call (sp := spLawNext K) (okLawNext T) hr (by rfl) T.G__law_next T.F__law_next.kp T.B__law_next .nil pass0 (pa_cons (pv 0) (pa_cons pe_int pa_nil))) (fun _ _ => rfl)) pa_nil)))))))
      (pss_one (ps_ret (pv 2))))), ?_⟩
    repeat' (first
      | with_reducible apply R.var
      | ((with_reducible apply R.isEq); exact rfl)
      | with_reducible apply R.op
      | with_reducible apply R.i2
      | with_reducible apply R.i0
      | with_reducible apply R.con
      | with_reducible apply R.cons
      | with_reducible apply R.nil
      | with_reducible apply R.gcons
      | with_reducible apply R.gname
      | ((with_reducible apply R.ixT); (focus ((repeat' (first | with_reducible assumption | with_reducible apply hU | ((with_reducible apply SqT.of); with_reducible assumption) | ((with_reducible apply same_seqT); with_reducible assumption) | ((with_reducible apply kp_seqT); with_reducible assumption) | ((with_reducible apply Dw.same); with_reducible assumption))); done)); exact rfl)
      | ((with_reducible apply R.ixL); (focus ((repeat' (first | with_reducible assumption | ((with_reducible apply SqL.of); with_reducible assumption) | ((with_reducible apply Same.seq); with_reducible assumption) | ((with_reducible apply Kp.seqL); with_reducible assumption) | ((with_reducible apply fresh_ne); with_reducible assumption) | ((with_reducible apply Dw.same); with_reducible assumption))); done)); exact rfl)
      | with_reducible assumption
      | with_reducible apply Bd.mulW
      | with_reducible apply Bd.mul
      | with_reducible apply Bd.add
      | with_reducible apply Bd.sub
      | ((with_reducible apply Bd.l8); exact eq_true (by decide))
      | ((with_reducible apply Bd.lit); exact eq_true (by decide))
      | with_reducible apply Bd.neg
      | with_reducible apply Bd.div
      | ((with_reducible apply Bd.om); omega)
      | ((with_reducible apply R.isLe); first | decide | omega)
      | with_reducible apply R.un
      | with_reducible apply R.u1
      | with_reducible apply R.tup
      | with_reducible apply R.lst
      | with_reducible apply R.call
      | with_reducible apply R.callB
      | with_reducible apply R.gtup
      | with_reducible apply R.gnil
      | with_reducible apply R.seq
      | with_reducible apply R.asg
      | with_reducible apply R.ret
      | with_reducible apply R.next
      | with_reducible apply R.drop
      | with_reducible apply R.par
      | with_reducible apply R.par2
      | with_reducible apply R.ifs
      | with_reducible apply R.tif
      | with_reducible apply R.test
      | with_reducible apply R.tb'
      | with_reducible apply R.isbl
      | with_reducible apply R.cmp
      | with_reducible apply R.t2i
      | with_reducible apply R.intp
      | with_reducible apply R.and
      | with_reducible apply R.or
      | with_reducible apply R.not
      | with_reducible apply R.andV
      | with_reducible apply R.orV
      | with_reducible apply R.notV
      | with_reducible apply R.chain
      | with_reducible apply R.tupL
      | with_reducible apply R.lstL
      | with_reducible apply R.cat
      | with_reducible apply R.isiT
      | with_reducible apply R.isiTup
      | with_reducible apply R.isiLst
      | with_reducible apply R.nwT
      | with_reducible apply R.nwL
      | ((with_reducible apply R.mt); intro HN tn sn nn ht)
      | ((with_reducible apply R.ml); intro HN tn sn nn ht)
      | ((with_reducible apply R.ne4); focus ((repeat' (first | with_reducible assumption | with_reducible apply hU | ((with_reducible apply SqT.of); with_reducible assumption) | ((with_reducible apply same_seqT); with_reducible assumption) | ((with_reducible apply kp_seqT); with_reducible assumption) | ((with_reducible apply Dw.same); with_reducible assumption))); done))
      | ((with_reducible apply R.ne3); focus ((repeat' (first | with_reducible assumption | with_reducible apply hU | ((with_reducible apply SqT.of); with_reducible assumption) | ((with_reducible apply same_seqT); with_reducible assumption) | ((with_reducible apply kp_seqT); with_reducible assumption) | ((with_reducible apply Dw.same); with_reducible assumption))); done))
      | ((with_reducible apply R.ne2); focus ((repeat' (first | with_reducible assumption | with_reducible apply hU | ((with_reducible apply SqT.of); with_reducible assumption) | ((with_reducible apply same_seqT); with_reducible assumption) | ((with_reducible apply kp_seqT); with_reducible assumption) | ((with_reducible apply Dw.same); with_reducible assumption))); done))
      | ((with_reducible apply R.eq4); focus ((repeat' (first | with_reducible assumption | with_reducible apply hU | ((with_reducible apply SqT.of); with_reducible assumption) | ((with_reducible apply same_seqT); with_reducible assumption) | ((with_reducible apply kp_seqT); with_reducible assumption) | ((with_reducible apply Dw.same); with_reducible assumption))); done))
      | ((with_reducible apply R.eq3); focus ((repeat' (first | with_reducible assumption | with_reducible apply hU | ((with_reducible apply SqT.of); with_reducible assumption) | ((with_reducible apply same_seqT); with_reducible assumption) | ((with_reducible apply kp_seqT); with_reducible assumption) | ((with_reducible apply Dw.same); with_reducible assumption))); done))
      | ((with_reducible apply R.eq2); focus ((repeat' (first | with_reducible assumption | with_reducible apply hU | ((with_reducible apply SqT.of); with_reducible assumption) | ((with_reducible apply same_seqT); with_reducible assumption) | ((with_reducible apply kp_seqT); with_reducible assumption) | ((with_reducible apply Dw.same); with_reducible assumption))); done))
      | with_reducible apply uLawNext
      | with_reducible apply uLawWide
      | with_reducible apply uMultiply
      | with_reducible apply uDeterminant
      | with_reducible apply uApply
      | with_reducible apply uNegative
      | with_reducible apply uLawAt
      | with_reducible apply uLawMul
      | with_reducible apply uInverse
      | ((with_reducible apply R.nw); intro HN tn sn ht)
      | with_reducible apply iteT
      | with_reducible apply iteF
      | ((with_reducible apply SqT.of); with_reducible assumption)
      | ((with_reducible apply SqL.of); with_reducible assumption)
      | ((with_reducible apply same_seqT); with_reducible assumption)
      | ((with_reducible apply sameB); with_reducible assumption)
      | ((with_reducible apply same_at); with_reducible assumption)
      | ((with_reducible apply kp_seqT); with_reducible assumption)
      | ((with_reducible apply Same.seq); with_reducible assumption)
      | ((with_reducible apply Kp.seqL); with_reducible assumption)
      | ((with_reducible apply fresh_ne); with_reducible assumption)
      | ((with_reducible apply Dw.same); with_reducible assumption)
      | ((with_reducible apply R.isEq); exact eq_true (by first | decide | omega))
      | ((with_reducible apply R.isLt); first | decide | omega)
      | ((with_reducible apply R.isLtI); first | decide | omega)
      | ((with_reducible apply R.isLeI); first | decide | omega)
      | ((with_reducible apply R.cdiv); exact rfl)
      | ((with_reducible apply R.cpow); exact rfl)
      | with_reducible apply hU
      | ((with_reducible apply wayNF); first | exact rfl | exact ⟨rfl, rfl⟩ | exact ⟨rfl, rfl, rfl⟩ | exact ⟨rfl, rfl, rfl, rfl⟩)
      | with_reducible apply R.forE
      | with_reducible apply R.rng1
      | with_reducible apply R.rng2
      | with_reducible apply R.rg1
      | with_reducible apply R.rg2
      | with_reducible apply R.lcE
      | with_reducible apply R.itup
      | with_reducible apply R.ilst
      )
    intro r1 H1 r1a r1b d1 k1
    repeat' (first
      | with_reducible apply R.var
      | ((with_reducible apply R.isEq); exact rfl)
      | with_reducible apply R.op
      | with_reducible apply R.i2
      | with_reducible apply R.i0
      | with_reducible apply R.con
      | with_reducible apply R.cons
      | with_reducible apply R.nil
      | with_reducible apply R.gcons
      | with_reducible apply R.gname
      | ((with_reducible apply R.ixT); (focus ((repeat' (first | with_reducible assumption | with_reducible apply hU | ((with_reducible apply SqT.of); with_reducible assumption) | ((with_reducible apply same_seqT); with_reducible assumption) | ((with_reducible apply kp_seqT); with_reducible assumption) | ((with_reducible apply Dw.same); with_reducible assumption))); done)); exact rfl)
      | ((with_reducible apply R.ixL); (focus ((repeat' (first | with_reducible assumption | ((with_reducible apply SqL.of); with_reducible assumption) | ((with_reducible apply Same.seq); with_reducible assumption) | ((with_reducible apply Kp.seqL); with_reducible assumption) | ((with_reducible apply fresh_ne); with_reducible assumption) | ((with_reducible apply Dw.same); with_reducible assumption))); done)); exact rfl)
      | with_reducible assumption
      | with_reducible apply Bd.mulW
      | with_reducible apply Bd.mul
      | with_reducible apply Bd.add
      | with_reducible apply Bd.sub
      | ((with_reducible apply Bd.l8); exact eq_true (by decide))
      | ((with_reducible apply Bd.lit); exact eq_true (by decide))
      | with_reducible apply Bd.neg
      | with_reducible apply Bd.div
      | ((with_reducible apply Bd.om); omega)
      | ((with_reducible apply R.isLe); first | decide | omega)
      | with_reducible apply R.un
      | with_reducible apply R.u1
      | with_reducible apply R.tup
      | with_reducible apply R.lst
      | with_reducible apply R.call
      | with_reducible apply R.callB
      | with_reducible apply R.gtup
      | with_reducible apply R.gnil
      | with_reducible apply R.seq
      | with_reducible apply R.asg
      | with_reducible apply R.ret
      | with_reducible apply R.next
      | with_reducible apply R.drop
      | with_reducible apply R.par
      | with_reducible apply R.par2
      | with_reducible apply R.ifs
      | with_reducible apply R.tif
      | with_reducible apply R.test
      | with_reducible apply R.tb'
      | with_reducible apply R.isbl
      | with_reducible apply R.cmp
      | with_reducible apply R.t2i
      | with_reducible apply R.intp
      | with_reducible apply R.and
      | with_reducible apply R.or
      | with_reducible apply R.not
      | with_reducible apply R.andV
      | with_reducible apply R.orV
      | with_reducible apply R.notV
      | with_reducible apply R.chain
      | with_reducible apply R.tupL
      | with_reducible apply R.lstL
      | with_reducible apply R.cat
      | with_reducible apply R.isiT
      | with_reducible apply R.isiTup
      | with_reducible apply R.isiLst
      | with_reducible apply R.nwT
      | with_reducible apply R.nwL
      | ((with_reducible apply R.mt); intro HN tn sn nn ht)
      | ((with_reducible apply R.ml); intro HN tn sn nn ht)
      | ((with_reducible apply R.ne4); focus ((repeat' (first | with_reducible assumption | with_reducible apply hU | ((with_reducible apply SqT.of); with_reducible assumption) | ((with_reducible apply same_seqT); with_reducible assumption) | ((with_reducible apply kp_seqT); with_reducible assumption) | ((with_reducible apply Dw.same); with_reducible assumption))); done))
      | ((with_reducible apply R.ne3); focus ((repeat' (first | with_reducible assumption | with_reducible apply hU | ((with_reducible apply SqT.of); with_reducible assumption) | ((with_reducible apply same_seqT); with_reducible assumption) | ((with_reducible apply kp_seqT); with_reducible assumption) | ((with_reducible apply Dw.same); with_reducible assumption))); done))
      | ((with_reducible apply R.ne2); focus ((repeat' (first | with_reducible assumption | with_reducible apply hU | ((with_reducible apply SqT.of); with_reducible assumption) | ((with_reducible apply same_seqT); with_reducible assumption) | ((with_reducible apply kp_seqT); with_reducible assumption) | ((with_reducible apply Dw.same); with_reducible assumption))); done))
      | ((with_reducible apply R.eq4); focus ((repeat' (first | with_reducible assumption | with_reducible apply hU | ((with_reducible apply SqT.of); with_reducible assumption) | ((with_reducible apply same_seqT); with_reducible assumption) | ((with_reducible apply kp_seqT); with_reducible assumption) | ((with_reducible apply Dw.same); with_reducible assumption))); done))
      | ((with_reducible apply R.eq3); focus ((repeat' (first | with_reducible assumption | with_reducible apply hU | ((with_reducible apply SqT.of); with_reducible assumption) | ((with_reducible apply same_seqT); with_reducible assumption) | ((with_reducible apply kp_seqT); with_reducible assumption) | ((with_reducible apply Dw.same); with_reducible assumption))); done))
      | ((with_reducible apply R.eq2); focus ((repeat' (first | with_reducible assumption | with_reducible apply hU | ((with_reducible apply SqT.of); with_reducible assumption) | ((with_reducible apply same_seqT); with_reducible assumption) | ((with_reducible apply kp_seqT); with_reducible assumption) | ((with_reducible apply Dw.same); with_reducible assumption))); done))
      | with_reducible apply uLawNext
      | with_reducible apply uLawWide
      | with_reducible apply uMultiply
      | with_reducible apply uDeterminant
      | with_reducible apply uApply
      | with_reducible apply uNegative
      | with_reducible apply uLawAt
      | with_reducible apply uLawMul
      | with_reducible apply uInverse
      | ((with_reducible apply R.nw); intro HN tn sn ht)
      | with_reducible apply iteT
      | with_reducible apply iteF
      | ((with_reducible apply SqT.of); with_reducible assumption)
      | ((with_reducible apply SqL.of); with_reducible assumption)
      | ((with_reducible apply same_seqT); with_reducible assumption)
      | ((with_reducible apply sameB); with_reducible assumption)
      | ((with_reducible apply same_at); with_reducible assumption)
      | ((with_reducible apply kp_seqT); with_reducible assumption)
      | ((with_reducible apply Same.seq); with_reducible assumption)
      | ((with_reducible apply Kp.seqL); with_reducible assumption)
      | ((with_reducible apply fresh_ne); with_reducible assumption)
      | ((with_reducible apply Dw.same); with_reducible assumption)
      | ((with_reducible apply R.isEq); exact eq_true (by first | decide | omega))
      | ((with_reducible apply R.isLt); first | decide | omega)
      | ((with_reducible apply R.isLtI); first | decide | omega)
      | ((with_reducible apply R.isLeI); first | decide | omega)
      | ((with_reducible apply R.cdiv); exact rfl)
      | ((with_reducible apply R.cpow); exact rfl)
      | with_reducible apply hU
      | ((with_reducible apply wayNF); first | exact rfl | exact ⟨rfl, rfl⟩ | exact ⟨rfl, rfl, rfl⟩ | exact ⟨rfl, rfl, rfl, rfl⟩)
      | with_reducible apply R.forE
      | with_reducible apply R.rng1
      | with_reducible apply R.rng2
      | with_reducible apply R.rg1
      | with_reducible apply R.rg2
      | with_reducible apply R.lcE
      | with_reducible apply R.itup
      | with_reducible apply R.ilst
      )
    refine R.forN (lo := 0) (n := r1.toNat) (fun i σ H' => ∃ (b : Addr) (m1 m2 m3 m4 : Int) (x3 x4 : Option V), σ = [some (.ref p), some (.int many), some (.ref b), x3, x4] ∧ Dw H' p a (N + 1 + 2 * i) ∧ Kp p H1 H' ∧ SqT K H' b [.int m1, .int m2, .int m3, .int m4] ∧ Lc4 i m1 m2 m3 m4)
      ?_ (fun i σ H2 hi hPv => ?_) (fun σ H2 hPv => ?_)
    · exact ⟨_, 1, 0, 0, 1, _, _, rfl, d1, Kp.refl, by (repeat' (first   | with_reducible apply R.var   | ((with_reducible apply R.isEq); exact rfl)   | with_reducible apply R.op   | with_reducible apply R.i2   | with_reducible apply R.i0   | with_reducible apply R.con   | with_reducible apply R.cons   | with_reducible apply R.nil   | with_reducible apply R.gcons   | with_reducible apply R.gname   | ((with_reducible apply R.ixT); (focus ((repeat' (first | with_reducible assumption | with_reducible apply hU | ((with_reducible apply SqT.of); with_reducible assumption) | ((with_reducible apply same_seqT); with_reducible assumption) | ((with_reducible apply kp_seqT); with_reducible assumption) | ((with_reducible apply Dw.same); with_reducible assumption))); done)); exact rfl)   | ((with_reducible apply R.ixL); (focus ((repeat' (first | with_reducible assumption | ((with_reducible apply SqL.of); with_reducible assumption) | ((with_reducible apply Same.seq); with_reducible assumption) | ((with_reducible apply Kp.seqL); with_reducible assumption) | ((with_reducible apply fresh_ne); with_reducible assumption) | ((with_reducible apply Dw.same); with_reducible assumption))); done)); exact rfl)   | with_reducible assumption   | with_reducible apply Bd.mulW   | with_reducible apply Bd.mul   | with_reducible apply Bd.add   | with_reducible apply Bd.sub   | ((with_reducible apply Bd.l8); exact eq_true (by decide))   | ((with_reducible apply Bd.lit); exact eq_true (by decide))   | with_reducible apply Bd.neg   | with_reducible apply Bd.div   | ((with_reducible apply Bd.om); omega)   | ((with_reducible apply R.isLe); first | decide | omega)   | with_reducible apply R.un   | with_reducible apply R.u1   | with_reducible apply R.tup   | with_reducible apply R.lst   | with_reducible apply R.call   | with_reducible apply R.callB   | with_reducible apply R.gtup   | with_reducible apply R.gnil   | with_reducible apply R.seq   | with_reducible apply R.asg   | with_reducible apply R.ret   | with_reducible apply R.next   | with_reducible apply R.drop   | with_reducible apply R.par   | with_reducible apply R.par2   | with_reducible apply R.ifs   | with_reducible apply R.tif   | with_reducible apply R.test   | with_reducible apply R.tb'   | with_reducible apply R.isbl   | with_reducible apply R.cmp   | with_reducible apply R.t2i   | with_reducible apply R.intp   | with_reducible apply R.and   | with_reducible apply R.or   | with_reducible apply R.not   | with_reducible apply R.andV   | with_reducible apply R.orV   | with_reducible apply R.notV   | with_reducible apply R.chain   | with_reducible apply R.tupL   | with_reducible apply R.lstL   | with_reducible apply R.cat   | with_reducible apply R.isiT   | with_reducible apply R.isiTup   | with_reducible apply R.isiLst   | with_reducible apply R.nwT   | with_reducible apply R.nwL   | ((with_reducible apply R.mt); intro HN tn sn nn ht)   | ((with_reducible apply R.ml); intro HN tn sn nn ht)   | ((with_reducible apply R.ne4); focus ((repeat' (first | with_reducible assumption | with_reducible apply hU | ((with_reducible apply SqT.of); with_reducible assumption) | ((with_reducible apply same_seqT); with_reducible assumption) | ((with_reducible apply kp_seqT); with_reducible assumption) | ((with_reducible apply Dw.same); with_reducible assumption))); done))   | ((with_reducible apply R.ne3); focus ((repeat' (first | with_reducible assumption | with_reducible apply hU | ((with_reducible apply SqT.of); with_reducible assumption) | ((with_reducible apply same_seqT); with_reducible assumption) | ((with_reducible apply kp_seqT); with_reducible assumption) | ((with_reducible apply Dw.same); with_reducible assumption))); done))   | ((with_reducible apply R.ne2); focus ((repeat' (first | with_reducible assumption | with_reducible apply hU | ((with_reducible apply SqT.of); with_reducible assumption) | ((with_reducible apply same_seqT); with_reducible assumption) | ((with_reducible apply kp_seqT); with_reducible assumption) | ((with_reducible apply Dw.same); with_reducible assumption))); done))   | ((with_reducible apply R.eq4); focus ((repeat' (first | with_reducible assumption | with_reducible apply hU | ((with_reducible apply SqT.of); with_reducible assumption) | ((with_reducible apply same_seqT); with_reducible assumption) | ((with_reducible apply kp_seqT); with_reducible assumption) | ((with_reducible apply Dw.same); with_reducible assumption))); done))   | ((with_reducible apply R.eq3); focus ((repeat' (first | with_reducible assumption | with_reducible apply hU | ((with_reducible apply SqT.of); with_reducible assumption) | ((with_reducible apply same_seqT); with_reducible assumption) | ((with_reducible apply kp_seqT); with_reducible assumption) | ((with_reducible apply Dw.same); with_reducible assumption))); done))   | ((with_reducible apply R.eq2); focus ((repeat' (first | with_reducible assumption | with_reducible apply hU | ((with_reducible apply SqT.of); with_reducible assumption) | ((with_reducible apply same_seqT); with_reducible assumption) | ((with_reducible apply kp_seqT); with_reducible assumption) | ((with_reducible apply Dw.same); with_reducible assumption))); done))   | with_reducible apply uLawNext   | with_reducible apply uLawWide   | with_reducible apply uMultiply   | with_reducible apply uDeterminant   | with_reducible apply uApply   | with_reducible apply uNegative   | with_reducible apply uLawAt   | with_reducible apply uLawMul   | with_reducible apply uInverse   | ((with_reducible apply R.nw); intro HN tn sn ht)   | with_reducible apply iteT   | with_reducible apply iteF   | ((with_reducible apply SqT.of); with_reducible assumption)   | ((with_reducible apply SqL.of); with_reducible assumption)   | ((with_reducible apply same_seqT); with_reducible assumption)   | ((with_reducible apply sameB); with_reducible assumption)   | ((with_reducible apply same_at); with_reducible assumption)   | ((with_reducible apply kp_seqT); with_reducible assumption)   | ((with_reducible apply Same.seq); with_reducible assumption)   | ((with_reducible apply Kp.seqL); with_reducible assumption)   | ((with_reducible apply fresh_ne); with_reducible assumption)   | ((with_reducible apply Dw.same); with_reducible assumption)   | ((with_reducible apply R.isEq); exact eq_true (by first | decide | omega))   | ((with_reducible apply R.isLt); first | decide | omega)   | ((with_reducible apply R.isLtI); first | decide | omega)   | ((with_reducible apply R.isLeI); first | decide | omega)   | ((with_reducible apply R.cdiv); exact rfl)   | ((with_reducible apply R.cpow); exact rfl)   | with_reducible apply hU   | ((with_reducible apply wayNF); first | exact rfl | exact ⟨rfl, rfl⟩ | exact ⟨rfl, rfl, rfl⟩ | exact ⟨rfl, rfl, rfl, rfl⟩)   | with_reducible apply R.forE   | with_reducible apply R.rng1   | with_reducible apply R.rng2   | with_reducible apply R.rg1   | with_reducible apply R.rg2   | with_reducible apply R.lcE   | with_reducible apply R.itup   | with_reducible apply R.ilst   )), by decide, by decide, by decide, by decide, by decide⟩
    · obtain ⟨b, m1, m2, m3, m4, x3, x4, rfl, d2, k2, s2, l2⟩ := hPv
      have bd := l2.bd (by omega)
      obtain ⟨b1, b2, b3, b4⟩ := bd
      repeat' (first
        | with_reducible apply R.var
        | ((with_reducible apply R.isEq); exact rfl)
        | with_reducible apply R.op
        | with_reducible apply R.i2
        | with_reducible apply R.i0
        | with_reducible apply R.con
        | with_reducible apply R.cons
        | with_reducible apply R.nil
        | with_reducible apply R.gcons
        | with_reducible apply R.gname
        | ((with_reducible apply R.ixT); (focus ((repeat' (first | with_reducible assumption | with_reducible apply hU | ((with_reducible apply SqT.of); with_reducible assumption) | ((with_reducible apply same_seqT); with_reducible assumption) | ((with_reducible apply kp_seqT); with_reducible assumption) | ((with_reducible apply Dw.same); with_reducible assumption))); done)); exact rfl)
        | ((with_reducible apply R.ixL); (focus ((repeat' (first | with_reducible assumption | ((with_reducible apply SqL.of); with_reducible assumption) | ((with_reducible apply Same.seq); with_reducible assumption) | ((with_reducible apply Kp.seqL); with_reducible assumption) | ((with_reducible apply fresh_ne); with_reducible assumption) | ((with_reducible apply Dw.same); with_reducible assumption))); done)); exact rfl)
        | with_reducible assumption
        | with_reducible apply Bd.mulW
        | with_reducible apply Bd.mul
        | with_reducible apply Bd.add
        | with_reducible apply Bd.sub
        | ((with_reducible apply Bd.l8); exact eq_true (by decide))
        | ((with_reducible apply Bd.lit); exact eq_true (by decide))
        | with_reducible apply Bd.neg
        | with_reducible apply Bd.div
        | ((with_reducible apply Bd.om); omega)
        | ((with_reducible apply R.isLe); first | decide | omega)
        | with_reducible apply R.un
        | with_reducible apply R.u1
        | with_reducible apply R.tup
        | with_reducible apply R.lst
        | with_reducible apply R.call
        | with_reducible apply R.callB
        | with_reducible apply R.gtup
        | with_reducible apply R.gnil
        | with_reducible apply R.seq
        | with_reducible apply R.asg
        | with_reducible apply R.ret
        | with_reducible apply R.next
        | with_reducible apply R.drop
        | with_reducible apply R.par
        | with_reducible apply R.par2
        | with_reducible apply R.ifs
        | with_reducible apply R.tif
        | with_reducible apply R.test
        | with_reducible apply R.tb'
        | with_reducible apply R.isbl
        | with_reducible apply R.cmp
        | with_reducible apply R.t2i
        | with_reducible apply R.intp
        | with_reducible apply R.and
        | with_reducible apply R.or
        | with_reducible apply R.not
        | with_reducible apply R.andV
        | with_reducible apply R.orV
        | with_reducible apply R.notV
        | with_reducible apply R.chain
        | with_reducible apply R.tupL
        | with_reducible apply R.lstL
        | with_reducible apply R.cat
        | with_reducible apply R.isiT
        | with_reducible apply R.isiTup
        | with_reducible apply R.isiLst
        | with_reducible apply R.nwT
        | with_reducible apply R.nwL
        | ((with_reducible apply R.mt); intro HN tn sn nn ht)
        | ((with_reducible apply R.ml); intro HN tn sn nn ht)
        | ((with_reducible apply R.ne4); focus ((repeat' (first | with_reducible assumption | with_reducible apply hU | ((with_reducible apply SqT.of); with_reducible assumption) | ((with_reducible apply same_seqT); with_reducible assumption) | ((with_reducible apply kp_seqT); with_reducible assumption) | ((with_reducible apply Dw.same); with_reducible assumption))); done))
        | ((with_reducible apply R.ne3); focus ((repeat' (first | with_reducible assumption | with_reducible apply hU | ((with_reducible apply SqT.of); with_reducible assumption) | ((with_reducible apply same_seqT); with_reducible assumption) | ((with_reducible apply kp_seqT); with_reducible assumption) | ((with_reducible apply Dw.same); with_reducible assumption))); done))
        | ((with_reducible apply R.ne2); focus ((repeat' (first | with_reducible assumption | with_reducible apply hU | ((with_reducible apply SqT.of); with_reducible assumption) | ((with_reducible apply same_seqT); with_reducible assumption) | ((with_reducible apply kp_seqT); with_reducible assumption) | ((with_reducible apply Dw.same); with_reducible assumption))); done))
        | ((with_reducible apply R.eq4); focus ((repeat' (first | with_reducible assumption | with_reducible apply hU | ((with_reducible apply SqT.of); with_reducible assumption) | ((with_reducible apply same_seqT); with_reducible assumption) | ((with_reducible apply kp_seqT); with_reducible assumption) | ((with_reducible apply Dw.same); with_reducible assumption))); done))
        | ((with_reducible apply R.eq3); focus ((repeat' (first | with_reducible assumption | with_reducible apply hU | ((with_reducible apply SqT.of); with_reducible assumption) | ((with_reducible apply same_seqT); with_reducible assumption) | ((with_reducible apply kp_seqT); with_reducible assumption) | ((with_reducible apply Dw.same); with_reducible assumption))); done))
        | ((with_reducible apply R.eq2); focus ((repeat' (first | with_reducible assumption | with_reducible apply hU | ((with_reducible apply SqT.of); with_reducible assumption) | ((with_reducible apply same_seqT); with_reducible assumption) | ((with_reducible apply kp_seqT); with_reducible assumption) | ((with_reducible apply Dw.same); with_reducible assumption))); done))
        | with_reducible apply uLawNext
        | with_reducible apply uLawWide
        | with_reducible apply uMultiply
        | with_reducible apply uDeterminant
        | with_reducible apply uApply
        | with_reducible apply uNegative
        | with_reducible apply uLawAt
        | with_reducible apply uLawMul
        | with_reducible apply uInverse
        | ((with_reducible apply R.nw); intro HN tn sn ht)
        | with_reducible apply iteT
        | with_reducible apply iteF
        | ((with_reducible apply SqT.of); with_reducible assumption)
        | ((with_reducible apply SqL.of); with_reducible assumption)
        | ((with_reducible apply same_seqT); with_reducible assumption)
        | ((with_reducible apply sameB); with_reducible assumption)
        | ((with_reducible apply same_at); with_reducible assumption)
        | ((with_reducible apply kp_seqT); with_reducible assumption)
        | ((with_reducible apply Same.seq); with_reducible assumption)
        | ((with_reducible apply Kp.seqL); with_reducible assumption)
        | ((with_reducible apply fresh_ne); with_reducible assumption)
        | ((with_reducible apply Dw.same); with_reducible assumption)
        | ((with_reducible apply R.isEq); exact eq_true (by first | decide | omega))
        | ((with_reducible apply R.isLt); first | decide | omega)
        | ((with_reducible apply R.isLtI); first | decide | omega)
        | ((with_reducible apply R.isLeI); first | decide | omega)
        | ((with_reducible apply R.cdiv); exact rfl)
        | ((with_reducible apply R.cpow); exact rfl)
        | with_reducible apply hU
        | ((with_reducible apply wayNF); first | exact rfl | exact ⟨rfl, rfl⟩ | exact ⟨rfl, rfl, rfl⟩ | exact ⟨rfl, rfl, rfl, rfl⟩)
        | with_reducible apply R.forE
        | with_reducible apply R.rng1
        | with_reducible apply R.rng2
        | with_reducible apply R.rg1
        | with_reducible apply R.rg2
        | with_reducible apply R.lcE
        | with_reducible apply R.itup
        | with_reducible apply R.ilst
        )
      intro r2 H3 r2a r2b d3 k3
      repeat' (first
        | with_reducible apply R.var
        | ((with_reducible apply R.isEq); exact rfl)
        | with_reducible apply R.op
        | with_reducible apply R.i2
        | with_reducible apply R.i0
        | with_reducible apply R.con
        | with_reducible apply R.cons
        | with_reducible apply R.nil
        | with_reducible apply R.gcons
        | with_reducible apply R.gname
        | ((with_reducible apply R.ixT); (focus ((repeat' (first | with_reducible assumption | with_reducible apply hU | ((with_reducible apply SqT.of); with_reducible assumption) | ((with_reducible apply same_seqT); with_reducible assumption) | ((with_reducible apply kp_seqT); with_reducible assumption) | ((with_reducible apply Dw.same); with_reducible assumption))); done)); exact rfl)
        | ((with_reducible apply R.ixL); (focus ((repeat' (first | with_reducible assumption | ((with_reducible apply SqL.of); with_reducible assumption) | ((with_reducible apply Same.seq); with_reducible assumption) | ((with_reducible apply Kp.seqL); with_reducible assumption) | ((with_reducible apply fresh_ne); with_reducible assumption) | ((with_reducible apply Dw.same); with_reducible assumption))); done)); exact rfl)
        | with_reducible assumption
        | with_reducible apply Bd.mulW
        | with_reducible apply Bd.mul
        | with_reducible apply Bd.add
        | with_reducible apply Bd.sub
        | ((with_reducible apply Bd.l8); exact eq_true (by decide))
        | ((with_reducible apply Bd.lit); exact eq_true (by decide))
        | with_reducible apply Bd.neg
        | with_reducible apply Bd.div
        | ((with_reducible apply Bd.om); omega)
        | ((with_reducible apply R.isLe); first | decide | omega)
        | with_reducible apply R.un
        | with_reducible apply R.u1
        | with_reducible apply R.tup
        | with_reducible apply R.lst
        | with_reducible apply R.call
        | with_reducible apply R.callB
        | with_reducible apply R.gtup
        | with_reducible apply R.gnil
        | with_reducible apply R.seq
        | with_reducible apply R.asg
        | with_reducible apply R.ret
        | with_reducible apply R.next
        | with_reducible apply R.drop
        | with_reducible apply R.par
        | with_reducible apply R.par2
        | with_reducible apply R.ifs
        | with_reducible apply R.tif
        | with_reducible apply R.test
        | with_reducible apply R.tb'
        | with_reducible apply R.isbl
        | with_reducible apply R.cmp
        | with_reducible apply R.t2i
        | with_reducible apply R.intp
        | with_reducible apply R.and
        | with_reducible apply R.or
        | with_reducible apply R.not
        | with_reducible apply R.andV
        | with_reducible apply R.orV
        | with_reducible apply R.notV
        | with_reducible apply R.chain
        | with_reducible apply R.tupL
        | with_reducible apply R.lstL
        | with_reducible apply R.cat
        | with_reducible apply R.isiT
        | with_reducible apply R.isiTup
        | with_reducible apply R.isiLst
        | with_reducible apply R.nwT
        | with_reducible apply R.nwL
        | ((with_reducible apply R.mt); intro HN tn sn nn ht)
        | ((with_reducible apply R.ml); intro HN tn sn nn ht)
        | ((with_reducible apply R.ne4); focus ((repeat' (first | with_reducible assumption | with_reducible apply hU | ((with_reducible apply SqT.of); with_reducible assumption) | ((with_reducible apply same_seqT); with_reducible assumption) | ((with_reducible apply kp_seqT); with_reducible assumption) | ((with_reducible apply Dw.same); with_reducible assumption))); done))
        | ((with_reducible apply R.ne3); focus ((repeat' (first | with_reducible assumption | with_reducible apply hU | ((with_reducible apply SqT.of); with_reducible assumption) | ((with_reducible apply same_seqT); with_reducible assumption) | ((with_reducible apply kp_seqT); with_reducible assumption) | ((with_reducible apply Dw.same); with_reducible assumption))); done))
        | ((with_reducible apply R.ne2); focus ((repeat' (first | with_reducible assumption | with_reducible apply hU | ((with_reducible apply SqT.of); with_reducible assumption) | ((with_reducible apply same_seqT); with_reducible assumption) | ((with_reducible apply kp_seqT); with_reducible assumption) | ((with_reducible apply Dw.same); with_reducible assumption))); done))
        | ((with_reducible apply R.eq4); focus ((repeat' (first | with_reducible assumption | with_reducible apply hU | ((with_reducible apply SqT.of); with_reducible assumption) | ((with_reducible apply same_seqT); with_reducible assumption) | ((with_reducible apply kp_seqT); with_reducible assumption) | ((with_reducible apply Dw.same); with_reducible assumption))); done))
        | ((with_reducible apply R.eq3); focus ((repeat' (first | with_reducible assumption | with_reducible apply hU | ((with_reducible apply SqT.of); with_reducible assumption) | ((with_reducible apply same_seqT); with_reducible assumption) | ((with_reducible apply kp_seqT); with_reducible assumption) | ((with_reducible apply Dw.same); with_reducible assumption))); done))
        | ((with_reducible apply R.eq2); focus ((repeat' (first | with_reducible assumption | with_reducible apply hU | ((with_reducible apply SqT.of); with_reducible assumption) | ((with_reducible apply same_seqT); with_reducible assumption) | ((with_reducible apply kp_seqT); with_reducible assumption) | ((with_reducible apply Dw.same); with_reducible assumption))); done))
        | with_reducible apply uLawNext
        | with_reducible apply uLawWide
        | with_reducible apply uMultiply
        | with_reducible apply uDeterminant
        | with_reducible apply uApply
        | with_reducible apply uNegative
        | with_reducible apply uLawAt
        | with_reducible apply uLawMul
        | with_reducible apply uInverse
        | ((with_reducible apply R.nw); intro HN tn sn ht)
        | with_reducible apply iteT
        | with_reducible apply iteF
        | ((with_reducible apply SqT.of); with_reducible assumption)
        | ((with_reducible apply SqL.of); with_reducible assumption)
        | ((with_reducible apply same_seqT); with_reducible assumption)
        | ((with_reducible apply sameB); with_reducible assumption)
        | ((with_reducible apply same_at); with_reducible assumption)
        | ((with_reducible apply kp_seqT); with_reducible assumption)
        | ((with_reducible apply Same.seq); with_reducible assumption)
        | ((with_reducible apply Kp.seqL); with_reducible assumption)
        | ((with_reducible apply fresh_ne); with_reducible assumption)
        | ((with_reducible apply Dw.same); with_reducible assumption)
        | ((with_reducible apply R.isEq); exact eq_true (by first | decide | omega))
        | ((with_reducible apply R.isLt); first | decide | omega)
        | ((with_reducible apply R.isLtI); first | decide | omega)
        | ((with_reducible apply R.isLeI); first | decide | omega)
        | ((with_reducible apply R.cdiv); exact rfl)
        | ((with_reducible apply R.cpow); exact rfl)
        | with_reducible apply hU
        | ((with_reducible apply wayNF); first | exact rfl | exact ⟨rfl, rfl⟩ | exact ⟨rfl, rfl, rfl⟩ | exact ⟨rfl, rfl, rfl, rfl⟩)
        | with_reducible apply R.forE
        | with_reducible apply R.rng1
        | with_reducible apply R.rng2
        | with_reducible apply R.rg1
        | with_reducible apply R.rg2
        | with_reducible apply R.lcE
        | with_reducible apply R.itup
        | with_reducible apply R.ilst
        )
      intro r3 H4 r3a r3b d4 k4
      have key : ∀ {σ : L2.St} {t1 t2 t3 t4 : Int} {H5 : Hp} {c : Addr}, σ = [some (.ref p), some (.int many), some (.ref c), some (.int (0 + ↑i)), some (.int (r2 - 2))] → Dw H5 p a (N + 1 + 2 * i + 1 + 1) → Kp p H4 H5 →
          SqT K H5 c [.int (m1 * t1 + m2 * t3), .int (m1 * t2 + m2 * t4), .int (m3 * t1 + m4 * t3), .int (m3 * t2 + m4 * t4)] → Lc4 (i + 1) (m1 * t1 + m2 * t3) (m1 * t2 + m2 * t4) (m3 * t1 + m4 * t3) (m3 * t2 + m4 * t4) →
          ∃ (b : Addr) (m1 m2 m3 m4 : Int) (x3 x4 : Option V), σ = [some (.ref p), some (.int many), some (.ref b), x3, x4] ∧ Dw H5 p a (N + 1 + 2 * (i + 1)) ∧ Kp p H1 H5 ∧ SqT K H5 b [.int m1, .int m2, .int m3, .int m4] ∧ Lc4 (i + 1) m1 m2 m3 m4 :=
        fun e d5 k5 s5 l5 => ⟨_, _, _, _, _, _, _, e, d5, by (repeat' (first | with_reducible exact Kp.refl | with_reducible assumption | ((with_reducible apply kpB); first | with_reducible assumption | ((with_reducible apply same_kp); with_reducible assumption)))), s5, l5⟩
      obtain rfl | rfl | rfl : r3 = 0 ∨ r3 = 1 ∨ r3 = 2 := by omega
      · skip
        repeat' (first
          | with_reducible apply R.var
          | ((with_reducible apply R.isEq); exact rfl)
          | with_reducible apply R.op
          | with_reducible apply R.i2
          | with_reducible apply R.i0
          | with_reducible apply R.con
          | with_reducible apply R.cons
          | with_reducible apply R.nil
          | with_reducible apply R.gcons
          | with_reducible apply R.gname
          | ((with_reducible apply R.ixT); (focus ((repeat' (first | with_reducible assumption | with_reducible apply hU | ((with_reducible apply SqT.of); with_reducible assumption) | ((with_reducible apply same_seqT); with_reducible assumption) | ((with_reducible apply kp_seqT); with_reducible assumption) | ((with_reducible apply Dw.same); with_reducible assumption))); done)); exact rfl)
          | ((with_reducible apply R.ixL); (focus ((repeat' (first | with_reducible assumption | ((with_reducible apply SqL.of); with_reducible assumption) | ((with_reducible apply Same.seq); with_reducible assumption) | ((with_reducible apply Kp.seqL); with_reducible assumption) | ((with_reducible apply fresh_ne); with_reducible assumption) | ((with_reducible apply Dw.same); with_reducible assumption))); done)); exact rfl)
          | with_reducible assumption
          | with_reducible apply Bd.mulW
          | with_reducible apply Bd.mul
          | with_reducible apply Bd.add
          | with_reducible apply Bd.sub
          | ((with_reducible apply Bd.l8); exact eq_true (by decide))
          | ((with_reducible apply Bd.lit); exact eq_true (by decide))
          | with_reducible apply Bd.neg
          | with_reducible apply Bd.div
          | ((with_reducible apply Bd.om); omega)
          | ((with_reducible apply R.isLe); first | decide | omega)
          | with_reducible apply R.un
          | with_reducible apply R.u1
          | with_reducible apply R.tup
          | with_reducible apply R.lst
          | with_reducible apply R.call
          | with_reducible apply R.callB
          | with_reducible apply R.gtup
          | with_reducible apply R.gnil
          | with_reducible apply R.seq
          | with_reducible apply R.asg
          | with_reducible apply R.ret
          | with_reducible apply R.next
          | with_reducible apply R.drop
          | with_reducible apply R.par
          | with_reducible apply R.par2
          | with_reducible apply R.ifs
          | with_reducible apply R.tif
          | with_reducible apply R.test
          | with_reducible apply R.tb'
          | with_reducible apply R.isbl
          | with_reducible apply R.cmp
          | with_reducible apply R.t2i
          | with_reducible apply R.intp
          | with_reducible apply R.and
          | with_reducible apply R.or
          | with_reducible apply R.not
          | with_reducible apply R.andV
          | with_reducible apply R.orV
          | with_reducible apply R.notV
          | with_reducible apply R.chain
          | with_reducible apply R.tupL
          | with_reducible apply R.lstL
          | with_reducible apply R.cat
          | with_reducible apply R.isiT
          | with_reducible apply R.isiTup
          | with_reducible apply R.isiLst
          | with_reducible apply R.nwT
          | with_reducible apply R.nwL
          | ((with_reducible apply R.mt); intro HN tn sn nn ht)
          | ((with_reducible apply R.ml); intro HN tn sn nn ht)
          | ((with_reducible apply R.ne4); focus ((repeat' (first | with_reducible assumption | with_reducible apply hU | ((with_reducible apply SqT.of); with_reducible assumption) | ((with_reducible apply same_seqT); with_reducible assumption) | ((with_reducible apply kp_seqT); with_reducible assumption) | ((with_reducible apply Dw.same); with_reducible assumption))); done))
          | ((with_reducible apply R.ne3); focus ((repeat' (first | with_reducible assumption | with_reducible apply hU | ((with_reducible apply SqT.of); with_reducible assumption) | ((with_reducible apply same_seqT); with_reducible assumption) | ((with_reducible apply kp_seqT); with_reducible assumption) | ((with_reducible apply Dw.same); with_reducible assumption))); done))
          | ((with_reducible apply R.ne2); focus ((repeat' (first | with_reducible assumption | with_reducible apply hU | ((with_reducible apply SqT.of); with_reducible assumption) | ((with_reducible apply same_seqT); with_reducible assumption) | ((with_reducible apply kp_seqT); with_reducible assumption) | ((with_reducible apply Dw.same); with_reducible assumption))); done))
          | ((with_reducible apply R.eq4); focus ((repeat' (first | with_reducible assumption | with_reducible apply hU | ((with_reducible apply SqT.of); with_reducible assumption) | ((with_reducible apply same_seqT); with_reducible assumption) | ((with_reducible apply kp_seqT); with_reducible assumption) | ((with_reducible apply Dw.same); with_reducible assumption))); done))
          | ((with_reducible apply R.eq3); focus ((repeat' (first | with_reducible assumption | with_reducible apply hU | ((with_reducible apply SqT.of); with_reducible assumption) | ((with_reducible apply same_seqT); with_reducible assumption) | ((with_reducible apply kp_seqT); with_reducible assumption) | ((with_reducible apply Dw.same); with_reducible assumption))); done))
          | ((with_reducible apply R.eq2); focus ((repeat' (first | with_reducible assumption | with_reducible apply hU | ((with_reducible apply SqT.of); with_reducible assumption) | ((with_reducible apply same_seqT); with_reducible assumption) | ((with_reducible apply kp_seqT); with_reducible assumption) | ((with_reducible apply Dw.same); with_reducible assumption))); done))
          | with_reducible apply uLawNext
          | with_reducible apply uLawWide
          | with_reducible apply uMultiply
          | with_reducible apply uDeterminant
          | with_reducible apply uApply
          | with_reducible apply uNegative
          | with_reducible apply uLawAt
          | with_reducible apply uLawMul
          | with_reducible apply uInverse
          | ((with_reducible apply R.nw); intro HN tn sn ht)
          | with_reducible apply iteT
          | with_reducible apply iteF
          | ((with_reducible apply SqT.of); with_reducible assumption)
          | ((with_reducible apply SqL.of); with_reducible assumption)
          | ((with_reducible apply same_seqT); with_reducible assumption)
          | ((with_reducible apply sameB); with_reducible assumption)
          | ((with_reducible apply same_at); with_reducible assumption)
          | ((with_reducible apply kp_seqT); with_reducible assumption)
          | ((with_reducible apply Same.seq); with_reducible assumption)
          | ((with_reducible apply Kp.seqL); with_reducible assumption)
          | ((with_reducible apply fresh_ne); with_reducible assumption)
          | ((with_reducible apply Dw.same); with_reducible assumption)
          | ((with_reducible apply R.isEq); exact eq_true (by first | decide | omega))
          | ((with_reducible apply R.isLt); first | decide | omega)
          | ((with_reducible apply R.isLtI); first | decide | omega)
          | ((with_reducible apply R.isLeI); first | decide | omega)
          | ((with_reducible apply R.cdiv); exact rfl)
          | ((with_reducible apply R.cpow); exact rfl)
          | with_reducible apply hU
          | ((with_reducible apply wayNF); first | exact rfl | exact ⟨rfl, rfl⟩ | exact ⟨rfl, rfl, rfl⟩ | exact ⟨rfl, rfl, rfl, rfl⟩)
          | with_reducible apply R.forE
          | with_reducible apply R.rng1
          | with_reducible apply R.rng2
          | with_reducible apply R.rg1
          | with_reducible apply R.rg2
          | with_reducible apply R.lcE
          | with_reducible apply R.itup
          | with_reducible apply R.ilst
          )
        refine key (t1 := 1) (t2 := r2 - 2) (t3 := 0) (t4 := 1) rfl ?_ ?_ ?_ ?_
        · skip
          repeat' (first
            | with_reducible apply R.var
            | ((with_reducible apply R.isEq); exact rfl)
            | with_reducible apply R.op
            | with_reducible apply R.i2
            | with_reducible apply R.i0
            | with_reducible apply R.con
            | with_reducible apply R.cons
            | with_reducible apply R.nil
            | with_reducible apply R.gcons
            | with_reducible apply R.gname
            | ((with_reducible apply R.ixT); (focus ((repeat' (first | with_reducible assumption | with_reducible apply hU | ((with_reducible apply SqT.of); with_reducible assumption) | ((with_reducible apply same_seqT); with_reducible assumption) | ((with_reducible apply kp_seqT); with_reducible assumption) | ((with_reducible apply Dw.same); with_reducible assumption))); done)); exact rfl)
            | ((with_reducible apply R.ixL); (focus ((repeat' (first | with_reducible assumption | ((with_reducible apply SqL.of); with_reducible assumption) | ((with_reducible apply Same.seq); with_reducible assumption) | ((with_reducible apply Kp.seqL); with_reducible assumption) | ((with_reducible apply fresh_ne); with_reducible assumption) | ((with_reducible apply Dw.same); with_reducible assumption))); done)); exact rfl)
            | with_reducible assumption
            | with_reducible apply Bd.mulW
            | with_reducible apply Bd.mul
            | with_reducible apply Bd.add
            | with_reducible apply Bd.sub
            | ((with_reducible apply Bd.l8); exact eq_true (by decide))
            | ((with_reducible apply Bd.lit); exact eq_true (by decide))
            | with_reducible apply Bd.neg
            | with_reducible apply Bd.div
            | ((with_reducible apply Bd.om); omega)
            | ((with_reducible apply R.isLe); first | decide | omega)
            | with_reducible apply R.un
            | with_reducible apply R.u1
            | with_reducible apply R.tup
            | with_reducible apply R.lst
            | with_reducible apply R.call
            | with_reducible apply R.callB
            | with_reducible apply R.gtup
            | with_reducible apply R.gnil
            | with_reducible apply R.seq
            | with_reducible apply R.asg
            | with_reducible apply R.ret
            | with_reducible apply R.next
            | with_reducible apply R.drop
            | with_reducible apply R.par
            | with_reducible apply R.par2
            | with_reducible apply R.ifs
            | with_reducible apply R.tif
            | with_reducible apply R.test
            | with_reducible apply R.tb'
            | with_reducible apply R.isbl
            | with_reducible apply R.cmp
            | with_reducible apply R.t2i
            | with_reducible apply R.intp
            | with_reducible apply R.and
            | with_reducible apply R.or
            | with_reducible apply R.not
            | with_reducible apply R.andV
            | with_reducible apply R.orV
            | with_reducible apply R.notV
            | with_reducible apply R.chain
            | with_reducible apply R.tupL
            | with_reducible apply R.lstL
            | with_reducible apply R.cat
            | with_reducible apply R.isiT
            | with_reducible apply R.isiTup
            | with_reducible apply R.isiLst
            | with_reducible apply R.nwT
            | with_reducible apply R.nwL
            | ((with_reducible apply R.mt); intro HN tn sn nn ht)
            | ((with_reducible apply R.ml); intro HN tn sn nn ht)
            | ((with_reducible apply R.ne4); focus ((repeat' (first | with_reducible assumption | with_reducible apply hU | ((with_reducible apply SqT.of); with_reducible assumption) | ((with_reducible apply same_seqT); with_reducible assumption) | ((with_reducible apply kp_seqT); with_reducible assumption) | ((with_reducible apply Dw.same); with_reducible assumption))); done))
            | ((with_reducible apply R.ne3); focus ((repeat' (first | with_reducible assumption | with_reducible apply hU | ((with_reducible apply SqT.of); with_reducible assumption) | ((with_reducible apply same_seqT); with_reducible assumption) | ((with_reducible apply kp_seqT); with_reducible assumption) | ((with_reducible apply Dw.same); with_reducible assumption))); done))
            | ((with_reducible apply R.ne2); focus ((repeat' (first | with_reducible assumption | with_reducible apply hU | ((with_reducible apply SqT.of); with_reducible assumption) | ((with_reducible apply same_seqT); with_reducible assumption) | ((with_reducible apply kp_seqT); with_reducible assumption) | ((with_reducible apply Dw.same); with_reducible assumption))); done))
            | ((with_reducible apply R.eq4); focus ((repeat' (first | with_reducible assumption | with_reducible apply hU | ((with_reducible apply SqT.of); with_reducible assumption) | ((with_reducible apply same_seqT); with_reducible assumption) | ((with_reducible apply kp_seqT); with_reducible assumption) | ((with_reducible apply Dw.same); with_reducible assumption))); done))
            | ((with_reducible apply R.eq3); focus ((repeat' (first | with_reducible assumption | with_reducible apply hU | ((with_reducible apply SqT.of); with_reducible assumption) | ((with_reducible apply same_seqT); with_reducible assumption) | ((with_reducible apply kp_seqT); with_reducible assumption) | ((with_reducible apply Dw.same); with_reducible assumption))); done))
            | ((with_reducible apply R.eq2); focus ((repeat' (first | with_reducible assumption | with_reducible apply hU | ((with_reducible apply SqT.of); with_reducible assumption) | ((with_reducible apply same_seqT); with_reducible assumption) | ((with_reducible apply kp_seqT); with_reducible assumption) | ((with_reducible apply Dw.same); with_reducible assumption))); done))
            | with_reducible apply uLawNext
            | with_reducible apply uLawWide
            | with_reducible apply uMultiply
            | with_reducible apply uDeterminant
            | with_reducible apply uApply
            | with_reducible apply uNegative
            | with_reducible apply uLawAt
            | with_reducible apply uLawMul
            | with_reducible apply uInverse
            | ((with_reducible apply R.nw); intro HN tn sn ht)
            | with_reducible apply iteT
            | with_reducible apply iteF
            | ((with_reducible apply SqT.of); with_reducible assumption)
            | ((with_reducible apply SqL.of); with_reducible assumption)
            | ((with_reducible apply same_seqT); with_reducible assumption)
            | ((with_reducible apply sameB); with_reducible assumption)
            | ((with_reducible apply same_at); with_reducible assumption)
            | ((with_reducible apply kp_seqT); with_reducible assumption)
            | ((with_reducible apply Same.seq); with_reducible assumption)
            | ((with_reducible apply Kp.seqL); with_reducible assumption)
            | ((with_reducible apply fresh_ne); with_reducible assumption)
            | ((with_reducible apply Dw.same); with_reducible assumption)
            | ((with_reducible apply R.isEq); exact eq_true (by first | decide | omega))
            | ((with_reducible apply R.isLt); first | decide | omega)
            | ((with_reducible apply R.isLtI); first | decide | omega)
            | ((with_reducible apply R.isLeI); first | decide | omega)
            | ((with_reducible apply R.cdiv); exact rfl)
            | ((with_reducible apply R.cpow); exact rfl)
            | with_reducible apply hU
            | ((with_reducible apply wayNF); first | exact rfl | exact ⟨rfl, rfl⟩ | exact ⟨rfl, rfl, rfl⟩ | exact ⟨rfl, rfl, rfl, rfl⟩)
            | with_reducible apply R.forE
            | with_reducible apply R.rng1
            | with_reducible apply R.rng2
            | with_reducible apply R.rg1
            | with_reducible apply R.rg2
            | with_reducible apply R.lcE
            | with_reducible apply R.itup
            | with_reducible apply R.ilst
            )
        · (repeat' (first | with_reducible exact Kp.refl | with_reducible assumption | ((with_reducible apply kpB); first | with_reducible assumption | ((with_reducible apply same_kp); with_reducible assumption))))
        · skip
          repeat' (first
            | with_reducible apply R.var
            | ((with_reducible apply R.isEq); exact rfl)
            | with_reducible apply R.op
            | with_reducible apply R.i2
            | with_reducible apply R.i0
            | with_reducible apply R.con
            | with_reducible apply R.cons
            | with_reducible apply R.nil
            | with_reducible apply R.gcons
            | with_reducible apply R.gname
            | ((with_reducible apply R.ixT); (focus ((repeat' (first | with_reducible assumption | with_reducible apply hU | ((with_reducible apply SqT.of); with_reducible assumption) | ((with_reducible apply same_seqT); with_reducible assumption) | ((with_reducible apply kp_seqT); with_reducible assumption) | ((with_reducible apply Dw.same); with_reducible assumption))); done)); exact rfl)
            | ((with_reducible apply R.ixL); (focus ((repeat' (first | with_reducible assumption | ((with_reducible apply SqL.of); with_reducible assumption) | ((with_reducible apply Same.seq); with_reducible assumption) | ((with_reducible apply Kp.seqL); with_reducible assumption) | ((with_reducible apply fresh_ne); with_reducible assumption) | ((with_reducible apply Dw.same); with_reducible assumption))); done)); exact rfl)
            | with_reducible assumption
            | with_reducible apply Bd.mulW
            | with_reducible apply Bd.mul
            | with_reducible apply Bd.add
            | with_reducible apply Bd.sub
            | ((with_reducible apply Bd.l8); exact eq_true (by decide))
            | ((with_reducible apply Bd.lit); exact eq_true (by decide))
            | with_reducible apply Bd.neg
            | with_reducible apply Bd.div
            | ((with_reducible apply Bd.om); omega)
            | ((with_reducible apply R.isLe); first | decide | omega)
            | with_reducible apply R.un
            | with_reducible apply R.u1
            | with_reducible apply R.tup
            | with_reducible apply R.lst
            | with_reducible apply R.call
            | with_reducible apply R.callB
            | with_reducible apply R.gtup
            | with_reducible apply R.gnil
            | with_reducible apply R.seq
            | with_reducible apply R.asg
            | with_reducible apply R.ret
            | with_reducible apply R.next
            | with_reducible apply R.drop
            | with_reducible apply R.par
            | with_reducible apply R.par2
            | with_reducible apply R.ifs
            | with_reducible apply R.tif
            | with_reducible apply R.test
            | with_reducible apply R.tb'
            | with_reducible apply R.isbl
            | with_reducible apply R.cmp
            | with_reducible apply R.t2i
            | with_reducible apply R.intp
            | with_reducible apply R.and
            | with_reducible apply R.or
            | with_reducible apply R.not
            | with_reducible apply R.andV
            | with_reducible apply R.orV
            | with_reducible apply R.notV
            | with_reducible apply R.chain
            | with_reducible apply R.tupL
            | with_reducible apply R.lstL
            | with_reducible apply R.cat
            | with_reducible apply R.isiT
            | with_reducible apply R.isiTup
            | with_reducible apply R.isiLst
            | with_reducible apply R.nwT
            | with_reducible apply R.nwL
            | ((with_reducible apply R.mt); intro HN tn sn nn ht)
            | ((with_reducible apply R.ml); intro HN tn sn nn ht)
            | ((with_reducible apply R.ne4); focus ((repeat' (first | with_reducible assumption | with_reducible apply hU | ((with_reducible apply SqT.of); with_reducible assumption) | ((with_reducible apply same_seqT); with_reducible assumption) | ((with_reducible apply kp_seqT); with_reducible assumption) | ((with_reducible apply Dw.same); with_reducible assumption))); done))
            | ((with_reducible apply R.ne3); focus ((repeat' (first | with_reducible assumption | with_reducible apply hU | ((with_reducible apply SqT.of); with_reducible assumption) | ((with_reducible apply same_seqT); with_reducible assumption) | ((with_reducible apply kp_seqT); with_reducible assumption) | ((with_reducible apply Dw.same); with_reducible assumption))); done))
            | ((with_reducible apply R.ne2); focus ((repeat' (first | with_reducible assumption | with_reducible apply hU | ((with_reducible apply SqT.of); with_reducible assumption) | ((with_reducible apply same_seqT); with_reducible assumption) | ((with_reducible apply kp_seqT); with_reducible assumption) | ((with_reducible apply Dw.same); with_reducible assumption))); done))
            | ((with_reducible apply R.eq4); focus ((repeat' (first | with_reducible assumption | with_reducible apply hU | ((with_reducible apply SqT.of); with_reducible assumption) | ((with_reducible apply same_seqT); with_reducible assumption) | ((with_reducible apply kp_seqT); with_reducible assumption) | ((with_reducible apply Dw.same); with_reducible assumption))); done))
            | ((with_reducible apply R.eq3); focus ((repeat' (first | with_reducible assumption | with_reducible apply hU | ((with_reducible apply SqT.of); with_reducible assumption) | ((with_reducible apply same_seqT); with_reducible assumption) | ((with_reducible apply kp_seqT); with_reducible assumption) | ((with_reducible apply Dw.same); with_reducible assumption))); done))
            | ((with_reducible apply R.eq2); focus ((repeat' (first | with_reducible assumption | with_reducible apply hU | ((with_reducible apply SqT.of); with_reducible assumption) | ((with_reducible apply same_seqT); with_reducible assumption) | ((with_reducible apply kp_seqT); with_reducible assumption) | ((with_reducible apply Dw.same); with_reducible assumption))); done))
            | with_reducible apply uLawNext
            | with_reducible apply uLawWide
            | with_reducible apply uMultiply
            | with_reducible apply uDeterminant
            | with_reducible apply uApply
            | with_reducible apply uNegative
            | with_reducible apply uLawAt
            | with_reducible apply uLawMul
            | with_reducible apply uInverse
            | ((with_reducible apply R.nw); intro HN tn sn ht)
            | with_reducible apply iteT
            | with_reducible apply iteF
            | ((with_reducible apply SqT.of); with_reducible assumption)
            | ((with_reducible apply SqL.of); with_reducible assumption)
            | ((with_reducible apply same_seqT); with_reducible assumption)
            | ((with_reducible apply sameB); with_reducible assumption)
            | ((with_reducible apply same_at); with_reducible assumption)
            | ((with_reducible apply kp_seqT); with_reducible assumption)
            | ((with_reducible apply Same.seq); with_reducible assumption)
            | ((with_reducible apply Kp.seqL); with_reducible assumption)
            | ((with_reducible apply fresh_ne); with_reducible assumption)
            | ((with_reducible apply Dw.same); with_reducible assumption)
            | ((with_reducible apply R.isEq); exact eq_true (by first | decide | omega))
            | ((with_reducible apply R.isLt); first | decide | omega)
            | ((with_reducible apply R.isLtI); first | decide | omega)
            | ((with_reducible apply R.isLeI); first | decide | omega)
            | ((with_reducible apply R.cdiv); exact rfl)
            | ((with_reducible apply R.cpow); exact rfl)
            | with_reducible apply hU
            | ((with_reducible apply wayNF); first | exact rfl | exact ⟨rfl, rfl⟩ | exact ⟨rfl, rfl, rfl⟩ | exact ⟨rfl, rfl, rfl, rfl⟩)
            | with_reducible apply R.forE
            | with_reducible apply R.rng1
            | with_reducible apply R.rng2
            | with_reducible apply R.rg1
            | with_reducible apply R.rg2
            | with_reducible apply R.lcE
            | with_reducible apply R.itup
            | with_reducible apply R.ilst
            )
        · exact l2.s1 (by omega) (by omega)
      · skip
        repeat' (first
          | with_reducible apply R.var
          | ((with_reducible apply R.isEq); exact rfl)
          | with_reducible apply R.op
          | with_reducible apply R.i2
          | with_reducible apply R.i0
          | with_reducible apply R.con
          | with_reducible apply R.cons
          | with_reducible apply R.nil
          | with_reducible apply R.gcons
          | with_reducible apply R.gname
          | ((with_reducible apply R.ixT); (focus ((repeat' (first | with_reducible assumption | with_reducible apply hU | ((with_reducible apply SqT.of); with_reducible assumption) | ((with_reducible apply same_seqT); with_reducible assumption) | ((with_reducible apply kp_seqT); with_reducible assumption) | ((with_reducible apply Dw.same); with_reducible assumption))); done)); exact rfl)
          | ((with_reducible apply R.ixL); (focus ((repeat' (first | with_reducible assumption | ((with_reducible apply SqL.of); with_reducible assumption) | ((with_reducible apply Same.seq); with_reducible assumption) | ((with_reducible apply Kp.seqL); with_reducible assumption) | ((with_reducible apply fresh_ne); with_reducible assumption) | ((with_reducible apply Dw.same); with_reducible assumption))); done)); exact rfl)
          | with_reducible assumption
          | with_reducible apply Bd.mulW
          | with_reducible apply Bd.mul
          | with_reducible apply Bd.add
          | with_reducible apply Bd.sub
          | ((with_reducible apply Bd.l8); exact eq_true (by decide))
          | ((with_reducible apply Bd.lit); exact eq_true (by decide))
          | with_reducible apply Bd.neg
          | with_reducible apply Bd.div
          | ((with_reducible apply Bd.om); omega)
          | ((with_reducible apply R.isLe); first | decide | omega)
          | with_reducible apply R.un
          | with_reducible apply R.u1
          | with_reducible apply R.tup
          | with_reducible apply R.lst
          | with_reducible apply R.call
          | with_reducible apply R.callB
          | with_reducible apply R.gtup
          | with_reducible apply R.gnil
          | with_reducible apply R.seq
          | with_reducible apply R.asg
          | with_reducible apply R.ret
          | with_reducible apply R.next
          | with_reducible apply R.drop
          | with_reducible apply R.par
          | with_reducible apply R.par2
          | with_reducible apply R.ifs
          | with_reducible apply R.tif
          | with_reducible apply R.test
          | with_reducible apply R.tb'
          | with_reducible apply R.isbl
          | with_reducible apply R.cmp
          | with_reducible apply R.t2i
          | with_reducible apply R.intp
          | with_reducible apply R.and
          | with_reducible apply R.or
          | with_reducible apply R.not
          | with_reducible apply R.andV
          | with_reducible apply R.orV
          | with_reducible apply R.notV
          | with_reducible apply R.chain
          | with_reducible apply R.tupL
          | with_reducible apply R.lstL
          | with_reducible apply R.cat
          | with_reducible apply R.isiT
          | with_reducible apply R.isiTup
          | with_reducible apply R.isiLst
          | with_reducible apply R.nwT
          | with_reducible apply R.nwL
          | ((with_reducible apply R.mt); intro HN tn sn nn ht)
          | ((with_reducible apply R.ml); intro HN tn sn nn ht)
          | ((with_reducible apply R.ne4); focus ((repeat' (first | with_reducible assumption | with_reducible apply hU | ((with_reducible apply SqT.of); with_reducible assumption) | ((with_reducible apply same_seqT); with_reducible assumption) | ((with_reducible apply kp_seqT); with_reducible assumption) | ((with_reducible apply Dw.same); with_reducible assumption))); done))
          | ((with_reducible apply R.ne3); focus ((repeat' (first | with_reducible assumption | with_reducible apply hU | ((with_reducible apply SqT.of); with_reducible assumption) | ((with_reducible apply same_seqT); with_reducible assumption) | ((with_reducible apply kp_seqT); with_reducible assumption) | ((with_reducible apply Dw.same); with_reducible assumption))); done))
          | ((with_reducible apply R.ne2); focus ((repeat' (first | with_reducible assumption | with_reducible apply hU | ((with_reducible apply SqT.of); with_reducible assumption) | ((with_reducible apply same_seqT); with_reducible assumption) | ((with_reducible apply kp_seqT); with_reducible assumption) | ((with_reducible apply Dw.same); with_reducible assumption))); done))
          | ((with_reducible apply R.eq4); focus ((repeat' (first | with_reducible assumption | with_reducible apply hU | ((with_reducible apply SqT.of); with_reducible assumption) | ((with_reducible apply same_seqT); with_reducible assumption) | ((with_reducible apply kp_seqT); with_reducible assumption) | ((with_reducible apply Dw.same); with_reducible assumption))); done))
          | ((with_reducible apply R.eq3); focus ((repeat' (first | with_reducible assumption | with_reducible apply hU | ((with_reducible apply SqT.of); with_reducible assumption) | ((with_reducible apply same_seqT); with_reducible assumption) | ((with_reducible apply kp_seqT); with_reducible assumption) | ((with_reducible apply Dw.same); with_reducible assumption))); done))
          | ((with_reducible apply R.eq2); focus ((repeat' (first | with_reducible assumption | with_reducible apply hU | ((with_reducible apply SqT.of); with_reducible assumption) | ((with_reducible apply same_seqT); with_reducible assumption) | ((with_reducible apply kp_seqT); with_reducible assumption) | ((with_reducible apply Dw.same); with_reducible assumption))); done))
          | with_reducible apply uLawNext
          | with_reducible apply uLawWide
          | with_reducible apply uMultiply
          | with_reducible apply uDeterminant
          | with_reducible apply uApply
          | with_reducible apply uNegative
          | with_reducible apply uLawAt
          | with_reducible apply uLawMul
          | with_reducible apply uInverse
          | ((with_reducible apply R.nw); intro HN tn sn ht)
          | with_reducible apply iteT
          | with_reducible apply iteF
          | ((with_reducible apply SqT.of); with_reducible assumption)
          | ((with_reducible apply SqL.of); with_reducible assumption)
          | ((with_reducible apply same_seqT); with_reducible assumption)
          | ((with_reducible apply sameB); with_reducible assumption)
          | ((with_reducible apply same_at); with_reducible assumption)
          | ((with_reducible apply kp_seqT); with_reducible assumption)
          | ((with_reducible apply Same.seq); with_reducible assumption)
          | ((with_reducible apply Kp.seqL); with_reducible assumption)
          | ((with_reducible apply fresh_ne); with_reducible assumption)
          | ((with_reducible apply Dw.same); with_reducible assumption)
          | ((with_reducible apply R.isEq); exact eq_true (by first | decide | omega))
          | ((with_reducible apply R.isLt); first | decide | omega)
          | ((with_reducible apply R.isLtI); first | decide | omega)
          | ((with_reducible apply R.isLeI); first | decide | omega)
          | ((with_reducible apply R.cdiv); exact rfl)
          | ((with_reducible apply R.cpow); exact rfl)
          | with_reducible apply hU
          | ((with_reducible apply wayNF); first | exact rfl | exact ⟨rfl, rfl⟩ | exact ⟨rfl, rfl, rfl⟩ | exact ⟨rfl, rfl, rfl, rfl⟩)
          | with_reducible apply R.forE
          | with_reducible apply R.rng1
          | with_reducible apply R.rng2
          | with_reducible apply R.rg1
          | with_reducible apply R.rg2
          | with_reducible apply R.lcE
          | with_reducible apply R.itup
          | with_reducible apply R.ilst
          )
        refine key (t1 := 1) (t2 := 0) (t3 := r2 - 2) (t4 := 1) rfl ?_ ?_ ?_ ?_
        · skip
          repeat' (first
            | with_reducible apply R.var
            | ((with_reducible apply R.isEq); exact rfl)
            | with_reducible apply R.op
            | with_reducible apply R.i2
            | with_reducible apply R.i0
            | with_reducible apply R.con
            | with_reducible apply R.cons
            | with_reducible apply R.nil
            | with_reducible apply R.gcons
            | with_reducible apply R.gname
            | ((with_reducible apply R.ixT); (focus ((repeat' (first | with_reducible assumption | with_reducible apply hU | ((with_reducible apply SqT.of); with_reducible assumption) | ((with_reducible apply same_seqT); with_reducible assumption) | ((with_reducible apply kp_seqT); with_reducible assumption) | ((with_reducible apply Dw.same); with_reducible assumption))); done)); exact rfl)
            | ((with_reducible apply R.ixL); (focus ((repeat' (first | with_reducible assumption | ((with_reducible apply SqL.of); with_reducible assumption) | ((with_reducible apply Same.seq); with_reducible assumption) | ((with_reducible apply Kp.seqL); with_reducible assumption) | ((with_reducible apply fresh_ne); with_reducible assumption) | ((with_reducible apply Dw.same); with_reducible assumption))); done)); exact rfl)
            | with_reducible assumption
            | with_reducible apply Bd.mulW
            | with_reducible apply Bd.mul
            | with_reducible apply Bd.add
            | with_reducible apply Bd.sub
            | ((with_reducible apply Bd.l8); exact eq_true (by decide))
            | ((with_reducible apply Bd.lit); exact eq_true (by decide))
            | with_reducible apply Bd.neg
            | with_reducible apply Bd.div
            | ((with_reducible apply Bd.om); omega)
            | ((with_reducible apply R.isLe); first | decide | omega)
            | with_reducible apply R.un
            | with_reducible apply R.u1
            | with_reducible apply R.tup
            | with_reducible apply R.lst
            | with_reducible apply R.call
            | with_reducible apply R.callB
            | with_reducible apply R.gtup
            | with_reducible apply R.gnil
            | with_reducible apply R.seq
            | with_reducible apply R.asg
            | with_reducible apply R.ret
            | with_reducible apply R.next
            | with_reducible apply R.drop
            | with_reducible apply R.par
            | with_reducible apply R.par2
            | with_reducible apply R.ifs
            | with_reducible apply R.tif
            | with_reducible apply R.test
            | with_reducible apply R.tb'
            | with_reducible apply R.isbl
            | with_reducible apply R.cmp
            | with_reducible apply R.t2i
            | with_reducible apply R.intp
            | with_reducible apply R.and
            | with_reducible apply R.or
            | with_reducible apply R.not
            | with_reducible apply R.andV
            | with_reducible apply R.orV
            | with_reducible apply R.notV
            | with_reducible apply R.chain
            | with_reducible apply R.tupL
            | with_reducible apply R.lstL
            | with_reducible apply R.cat
            | with_reducible apply R.isiT
            | with_reducible apply R.isiTup
            | with_reducible apply R.isiLst
            | with_reducible apply R.nwT
            | with_reducible apply R.nwL
            | ((with_reducible apply R.mt); intro HN tn sn nn ht)
            | ((with_reducible apply R.ml); intro HN tn sn nn ht)
            | ((with_reducible apply R.ne4); focus ((repeat' (first | with_reducible assumption | with_reducible apply hU | ((with_reducible apply SqT.of); with_reducible assumption) | ((with_reducible apply same_seqT); with_reducible assumption) | ((with_reducible apply kp_seqT); with_reducible assumption) | ((with_reducible apply Dw.same); with_reducible assumption))); done))
            | ((with_reducible apply R.ne3); focus ((repeat' (first | with_reducible assumption | with_reducible apply hU | ((with_reducible apply SqT.of); with_reducible assumption) | ((with_reducible apply same_seqT); with_reducible assumption) | ((with_reducible apply kp_seqT); with_reducible assumption) | ((with_reducible apply Dw.same); with_reducible assumption))); done))
            | ((with_reducible apply R.ne2); focus ((repeat' (first | with_reducible assumption | with_reducible apply hU | ((with_reducible apply SqT.of); with_reducible assumption) | ((with_reducible apply same_seqT); with_reducible assumption) | ((with_reducible apply kp_seqT); with_reducible assumption) | ((with_reducible apply Dw.same); with_reducible assumption))); done))
            | ((with_reducible apply R.eq4); focus ((repeat' (first | with_reducible assumption | with_reducible apply hU | ((with_reducible apply SqT.of); with_reducible assumption) | ((with_reducible apply same_seqT); with_reducible assumption) | ((with_reducible apply kp_seqT); with_reducible assumption) | ((with_reducible apply Dw.same); with_reducible assumption))); done))
            | ((with_reducible apply R.eq3); focus ((repeat' (first | with_reducible assumption | with_reducible apply hU | ((with_reducible apply SqT.of); with_reducible assumption) | ((with_reducible apply same_seqT); with_reducible assumption) | ((with_reducible apply kp_seqT); with_reducible assumption) | ((with_reducible apply Dw.same); with_reducible assumption))); done))
            | ((with_reducible apply R.eq2); focus ((repeat' (first | with_reducible assumption | with_reducible apply hU | ((with_reducible apply SqT.of); with_reducible assumption) | ((with_reducible apply same_seqT); with_reducible assumption) | ((with_reducible apply kp_seqT); with_reducible assumption) | ((with_reducible apply Dw.same); with_reducible assumption))); done))
            | with_reducible apply uLawNext
            | with_reducible apply uLawWide
            | with_reducible apply uMultiply
            | with_reducible apply uDeterminant
            | with_reducible apply uApply
            | with_reducible apply uNegative
            | with_reducible apply uLawAt
            | with_reducible apply uLawMul
            | with_reducible apply uInverse
            | ((with_reducible apply R.nw); intro HN tn sn ht)
            | with_reducible apply iteT
            | with_reducible apply iteF
            | ((with_reducible apply SqT.of); with_reducible assumption)
            | ((with_reducible apply SqL.of); with_reducible assumption)
            | ((with_reducible apply same_seqT); with_reducible assumption)
            | ((with_reducible apply sameB); with_reducible assumption)
            | ((with_reducible apply same_at); with_reducible assumption)
            | ((with_reducible apply kp_seqT); with_reducible assumption)
            | ((with_reducible apply Same.seq); with_reducible assumption)
            | ((with_reducible apply Kp.seqL); with_reducible assumption)
            | ((with_reducible apply fresh_ne); with_reducible assumption)
            | ((with_reducible apply Dw.same); with_reducible assumption)
            | ((with_reducible apply R.isEq); exact eq_true (by first | decide | omega))
            | ((with_reducible apply R.isLt); first | decide | omega)
            | ((with_reducible apply R.isLtI); first | decide | omega)
            | ((with_reducible apply R.isLeI); first | decide | omega)
            | ((with_reducible apply R.cdiv); exact rfl)
            | ((with_reducible apply R.cpow); exact rfl)
            | with_reducible apply hU
            | ((with_reducible apply wayNF); first | exact rfl | exact ⟨rfl, rfl⟩ | exact ⟨rfl, rfl, rfl⟩ | exact ⟨rfl, rfl, rfl, rfl⟩)
            | with_reducible apply R.forE
            | with_reducible apply R.rng1
            | with_reducible apply R.rng2
            | with_reducible apply R.rg1
            | with_reducible apply R.rg2
            | with_reducible apply R.lcE
            | with_reducible apply R.itup
            | with_reducible apply R.ilst
            )
        · (repeat' (first | with_reducible exact Kp.refl | with_reducible assumption | ((with_reducible apply kpB); first | with_reducible assumption | ((with_reducible apply same_kp); with_reducible assumption))))
        · skip
          repeat' (first
            | with_reducible apply R.var
            | ((with_reducible apply R.isEq); exact rfl)
            | with_reducible apply R.op
            | with_reducible apply R.i2
            | with_reducible apply R.i0
            | with_reducible apply R.con
            | with_reducible apply R.cons
            | with_reducible apply R.nil
            | with_reducible apply R.gcons
            | with_reducible apply R.gname
            | ((with_reducible apply R.ixT); (focus ((repeat' (first | with_reducible assumption | with_reducible apply hU | ((with_reducible apply SqT.of); with_reducible assumption) | ((with_reducible apply same_seqT); with_reducible assumption) | ((with_reducible apply kp_seqT); with_reducible assumption) | ((with_reducible apply Dw.same); with_reducible assumption))); done)); exact rfl)
            | ((with_reducible apply R.ixL); (focus ((repeat' (first | with_reducible assumption | ((with_reducible apply SqL.of); with_reducible assumption) | ((with_reducible apply Same.seq); with_reducible assumption) | ((with_reducible apply Kp.seqL); with_reducible assumption) | ((with_reducible apply fresh_ne); with_reducible assumption) | ((with_reducible apply Dw.same); with_reducible assumption))); done)); exact rfl)
            | with_reducible assumption
            | with_reducible apply Bd.mulW
            | with_reducible apply Bd.mul
            | with_reducible apply Bd.add
            | with_reducible apply Bd.sub
            | ((with_reducible apply Bd.l8); exact eq_true (by decide))
            | ((with_reducible apply Bd.lit); exact eq_true (by decide))
            | with_reducible apply Bd.neg
            | with_reducible apply Bd.div
            | ((with_reducible apply Bd.om); omega)
            | ((with_reducible apply R.isLe); first | decide | omega)
            | with_reducible apply R.un
            | with_reducible apply R.u1
            | with_reducible apply R.tup
            | with_reducible apply R.lst
            | with_reducible apply R.call
            | with_reducible apply R.callB
            | with_reducible apply R.gtup
            | with_reducible apply R.gnil
            | with_reducible apply R.seq
            | with_reducible apply R.asg
            | with_reducible apply R.ret
            | with_reducible apply R.next
            | with_reducible apply R.drop
            | with_reducible apply R.par
            | with_reducible apply R.par2
            | with_reducible apply R.ifs
            | with_reducible apply R.tif
            | with_reducible apply R.test
            | with_reducible apply R.tb'
            | with_reducible apply R.isbl
            | with_reducible apply R.cmp
            | with_reducible apply R.t2i
            | with_reducible apply R.intp
            | with_reducible apply R.and
            | with_reducible apply R.or
            | with_reducible apply R.not
            | with_reducible apply R.andV
            | with_reducible apply R.orV
            | with_reducible apply R.notV
            | with_reducible apply R.chain
            | with_reducible apply R.tupL
            | with_reducible apply R.lstL
            | with_reducible apply R.cat
            | with_reducible apply R.isiT
            | with_reducible apply R.isiTup
            | with_reducible apply R.isiLst
            | with_reducible apply R.nwT
            | with_reducible apply R.nwL
            | ((with_reducible apply R.mt); intro HN tn sn nn ht)
            | ((with_reducible apply R.ml); intro HN tn sn nn ht)
            | ((with_reducible apply R.ne4); focus ((repeat' (first | with_reducible assumption | with_reducible apply hU | ((with_reducible apply SqT.of); with_reducible assumption) | ((with_reducible apply same_seqT); with_reducible assumption) | ((with_reducible apply kp_seqT); with_reducible assumption) | ((with_reducible apply Dw.same); with_reducible assumption))); done))
            | ((with_reducible apply R.ne3); focus ((repeat' (first | with_reducible assumption | with_reducible apply hU | ((with_reducible apply SqT.of); with_reducible assumption) | ((with_reducible apply same_seqT); with_reducible assumption) | ((with_reducible apply kp_seqT); with_reducible assumption) | ((with_reducible apply Dw.same); with_reducible assumption))); done))
            | ((with_reducible apply R.ne2); focus ((repeat' (first | with_reducible assumption | with_reducible apply hU | ((with_reducible apply SqT.of); with_reducible assumption) | ((with_reducible apply same_seqT); with_reducible assumption) | ((with_reducible apply kp_seqT); with_reducible assumption) | ((with_reducible apply Dw.same); with_reducible assumption))); done))
            | ((with_reducible apply R.eq4); focus ((repeat' (first | with_reducible assumption | with_reducible apply hU | ((with_reducible apply SqT.of); with_reducible assumption) | ((with_reducible apply same_seqT); with_reducible assumption) | ((with_reducible apply kp_seqT); with_reducible assumption) | ((with_reducible apply Dw.same); with_reducible assumption))); done))
            | ((with_reducible apply R.eq3); focus ((repeat' (first | with_reducible assumption | with_reducible apply hU | ((with_reducible apply SqT.of); with_reducible assumption) | ((with_reducible apply same_seqT); with_reducible assumption) | ((with_reducible apply kp_seqT); with_reducible assumption) | ((with_reducible apply Dw.same); with_reducible assumption))); done))
            | ((with_reducible apply R.eq2); focus ((repeat' (first | with_reducible assumption | with_reducible apply hU | ((with_reducible apply SqT.of); with_reducible assumption) | ((with_reducible apply same_seqT); with_reducible assumption) | ((with_reducible apply kp_seqT); with_reducible assumption) | ((with_reducible apply Dw.same); with_reducible assumption))); done))
            | with_reducible apply uLawNext
            | with_reducible apply uLawWide
            | with_reducible apply uMultiply
            | with_reducible apply uDeterminant
            | with_reducible apply uApply
            | with_reducible apply uNegative
            | with_reducible apply uLawAt
            | with_reducible apply uLawMul
            | with_reducible apply uInverse
            | ((with_reducible apply R.nw); intro HN tn sn ht)
            | with_reducible apply iteT
            | with_reducible apply iteF
            | ((with_reducible apply SqT.of); with_reducible assumption)
            | ((with_reducible apply SqL.of); with_reducible assumption)
            | ((with_reducible apply same_seqT); with_reducible assumption)
            | ((with_reducible apply sameB); with_reducible assumption)
            | ((with_reducible apply same_at); with_reducible assumption)
            | ((with_reducible apply kp_seqT); with_reducible assumption)
            | ((with_reducible apply Same.seq); with_reducible assumption)
            | ((with_reducible apply Kp.seqL); with_reducible assumption)
            | ((with_reducible apply fresh_ne); with_reducible assumption)
            | ((with_reducible apply Dw.same); with_reducible assumption)
            | ((with_reducible apply R.isEq); exact eq_true (by first | decide | omega))
            | ((with_reducible apply R.isLt); first | decide | omega)
            | ((with_reducible apply R.isLtI); first | decide | omega)
            | ((with_reducible apply R.isLeI); first | decide | omega)
            | ((with_reducible apply R.cdiv); exact rfl)
            | ((with_reducible apply R.cpow); exact rfl)
            | with_reducible apply hU
            | ((with_reducible apply wayNF); first | exact rfl | exact ⟨rfl, rfl⟩ | exact ⟨rfl, rfl, rfl⟩ | exact ⟨rfl, rfl, rfl, rfl⟩)
            | with_reducible apply R.forE
            | with_reducible apply R.rng1
            | with_reducible apply R.rng2
            | with_reducible apply R.rg1
            | with_reducible apply R.rg2
            | with_reducible apply R.lcE
            | with_reducible apply R.itup
            | with_reducible apply R.ilst
            )
        · exact l2.s2 (by omega) (by omega)
      · skip
        repeat' (first
          | with_reducible apply R.var
          | ((with_reducible apply R.isEq); exact rfl)
          | with_reducible apply R.op
          | with_reducible apply R.i2
          | with_reducible apply R.i0
          | with_reducible apply R.con
          | with_reducible apply R.cons
          | with_reducible apply R.nil
          | with_reducible apply R.gcons
          | with_reducible apply R.gname
          | ((with_reducible apply R.ixT); (focus ((repeat' (first | with_reducible assumption | with_reducible apply hU | ((with_reducible apply SqT.of); with_reducible assumption) | ((with_reducible apply same_seqT); with_reducible assumption) | ((with_reducible apply kp_seqT); with_reducible assumption) | ((with_reducible apply Dw.same); with_reducible assumption))); done)); exact rfl)
          | ((with_reducible apply R.ixL); (focus ((repeat' (first | with_reducible assumption | ((with_reducible apply SqL.of); with_reducible assumption) | ((with_reducible apply Same.seq); with_reducible assumption) | ((with_reducible apply Kp.seqL); with_reducible assumption) | ((with_reducible apply fresh_ne); with_reducible assumption) | ((with_reducible apply Dw.same); with_reducible assumption))); done)); exact rfl)
          | with_reducible assumption
          | with_reducible apply Bd.mulW
          | with_reducible apply Bd.mul
          | with_reducible apply Bd.add
          | with_reducible apply Bd.sub
          | ((with_reducible apply Bd.l8); exact eq_true (by decide))
          | ((with_reducible apply Bd.lit); exact eq_true (by decide))
          | with_reducible apply Bd.neg
          | with_reducible apply Bd.div
          | ((with_reducible apply Bd.om); omega)
          | ((with_reducible apply R.isLe); first | decide | omega)
          | with_reducible apply R.un
          | with_reducible apply R.u1
          | with_reducible apply R.tup
          | with_reducible apply R.lst
          | with_reducible apply R.call
          | with_reducible apply R.callB
          | with_reducible apply R.gtup
          | with_reducible apply R.gnil
          | with_reducible apply R.seq
          | with_reducible apply R.asg
          | with_reducible apply R.ret
          | with_reducible apply R.next
          | with_reducible apply R.drop
          | with_reducible apply R.par
          | with_reducible apply R.par2
          | with_reducible apply R.ifs
          | with_reducible apply R.tif
          | with_reducible apply R.test
          | with_reducible apply R.tb'
          | with_reducible apply R.isbl
          | with_reducible apply R.cmp
          | with_reducible apply R.t2i
          | with_reducible apply R.intp
          | with_reducible apply R.and
          | with_reducible apply R.or
          | with_reducible apply R.not
          | with_reducible apply R.andV
          | with_reducible apply R.orV
          | with_reducible apply R.notV
          | with_reducible apply R.chain
          | with_reducible apply R.tupL
          | with_reducible apply R.lstL
          | with_reducible apply R.cat
          | with_reducible apply R.isiT
          | with_reducible apply R.isiTup
          | with_reducible apply R.isiLst
          | with_reducible apply R.nwT
          | with_reducible apply R.nwL
          | ((with_reducible apply R.mt); intro HN tn sn nn ht)
          | ((with_reducible apply R.ml); intro HN tn sn nn ht)
          | ((with_reducible apply R.ne4); focus ((repeat' (first | with_reducible assumption | with_reducible apply hU | ((with_reducible apply SqT.of); with_reducible assumption) | ((with_reducible apply same_seqT); with_reducible assumption) | ((with_reducible apply kp_seqT); with_reducible assumption) | ((with_reducible apply Dw.same); with_reducible assumption))); done))
          | ((with_reducible apply R.ne3); focus ((repeat' (first | with_reducible assumption | with_reducible apply hU | ((with_reducible apply SqT.of); with_reducible assumption) | ((with_reducible apply same_seqT); with_reducible assumption) | ((with_reducible apply kp_seqT); with_reducible assumption) | ((with_reducible apply Dw.same); with_reducible assumption))); done))
          | ((with_reducible apply R.ne2); focus ((repeat' (first | with_reducible assumption | with_reducible apply hU | ((with_reducible apply SqT.of); with_reducible assumption) | ((with_reducible apply same_seqT); with_reducible assumption) | ((with_reducible apply kp_seqT); with_reducible assumption) | ((with_reducible apply Dw.same); with_reducible assumption))); done))
          | ((with_reducible apply R.eq4); focus ((repeat' (first | with_reducible assumption | with_reducible apply hU | ((with_reducible apply SqT.of); with_reducible assumption) | ((with_reducible apply same_seqT); with_reducible assumption) | ((with_reducible apply kp_seqT); with_reducible assumption) | ((with_reducible apply Dw.same); with_reducible assumption))); done))
          | ((with_reducible apply R.eq3); focus ((repeat' (first | with_reducible assumption | with_reducible apply hU | ((with_reducible apply SqT.of); with_reducible assumption) | ((with_reducible apply same_seqT); with_reducible assumption) | ((with_reducible apply kp_seqT); with_reducible assumption) | ((with_reducible apply Dw.same); with_reducible assumption))); done))
          | ((with_reducible apply R.eq2); focus ((repeat' (first | with_reducible assumption | with_reducible apply hU | ((with_reducible apply SqT.of); with_reducible assumption) | ((with_reducible apply same_seqT); with_reducible assumption) | ((with_reducible apply kp_seqT); with_reducible assumption) | ((with_reducible apply Dw.same); with_reducible assumption))); done))
          | with_reducible apply uLawNext
          | with_reducible apply uLawWide
          | with_reducible apply uMultiply
          | with_reducible apply uDeterminant
          | with_reducible apply uApply
          | with_reducible apply uNegative
          | with_reducible apply uLawAt
          | with_reducible apply uLawMul
          | with_reducible apply uInverse
          | ((with_reducible apply R.nw); intro HN tn sn ht)
          | with_reducible apply iteT
          | with_reducible apply iteF
          | ((with_reducible apply SqT.of); with_reducible assumption)
          | ((with_reducible apply SqL.of); with_reducible assumption)
          | ((with_reducible apply same_seqT); with_reducible assumption)
          | ((with_reducible apply sameB); with_reducible assumption)
          | ((with_reducible apply same_at); with_reducible assumption)
          | ((with_reducible apply kp_seqT); with_reducible assumption)
          | ((with_reducible apply Same.seq); with_reducible assumption)
          | ((with_reducible apply Kp.seqL); with_reducible assumption)
          | ((with_reducible apply fresh_ne); with_reducible assumption)
          | ((with_reducible apply Dw.same); with_reducible assumption)
          | ((with_reducible apply R.isEq); exact eq_true (by first | decide | omega))
          | ((with_reducible apply R.isLt); first | decide | omega)
          | ((with_reducible apply R.isLtI); first | decide | omega)
          | ((with_reducible apply R.isLeI); first | decide | omega)
          | ((with_reducible apply R.cdiv); exact rfl)
          | ((with_reducible apply R.cpow); exact rfl)
          | with_reducible apply hU
          | ((with_reducible apply wayNF); first | exact rfl | exact ⟨rfl, rfl⟩ | exact ⟨rfl, rfl, rfl⟩ | exact ⟨rfl, rfl, rfl, rfl⟩)
          | with_reducible apply R.forE
          | with_reducible apply R.rng1
          | with_reducible apply R.rng2
          | with_reducible apply R.rg1
          | with_reducible apply R.rg2
          | with_reducible apply R.lcE
          | with_reducible apply R.itup
          | with_reducible apply R.ilst
          )
        refine key (t1 := 0) (t2 := -1) (t3 := 1) (t4 := 0) rfl ?_ ?_ ?_ ?_
        · skip
          repeat' (first
            | with_reducible apply R.var
            | ((with_reducible apply R.isEq); exact rfl)
            | with_reducible apply R.op
            | with_reducible apply R.i2
            | with_reducible apply R.i0
            | with_reducible apply R.con
            | with_reducible apply R.cons
            | with_reducible apply R.nil
            | with_reducible apply R.gcons
            | with_reducible apply R.gname
            | ((with_reducible apply R.ixT); (focus ((repeat' (first | with_reducible assumption | with_reducible apply hU | ((with_reducible apply SqT.of); with_reducible assumption) | ((with_reducible apply same_seqT); with_reducible assumption) | ((with_reducible apply kp_seqT); with_reducible assumption) | ((with_reducible apply Dw.same); with_reducible assumption))); done)); exact rfl)
            | ((with_reducible apply R.ixL); (focus ((repeat' (first | with_reducible assumption | ((with_reducible apply SqL.of); with_reducible assumption) | ((with_reducible apply Same.seq); with_reducible assumption) | ((with_reducible apply Kp.seqL); with_reducible assumption) | ((with_reducible apply fresh_ne); with_reducible assumption) | ((with_reducible apply Dw.same); with_reducible assumption))); done)); exact rfl)
            | with_reducible assumption
            | with_reducible apply Bd.mulW
            | with_reducible apply Bd.mul
            | with_reducible apply Bd.add
            | with_reducible apply Bd.sub
            | ((with_reducible apply Bd.l8); exact eq_true (by decide))
            | ((with_reducible apply Bd.lit); exact eq_true (by decide))
            | with_reducible apply Bd.neg
            | with_reducible apply Bd.div
            | ((with_reducible apply Bd.om); omega)
            | ((with_reducible apply R.isLe); first | decide | omega)
            | with_reducible apply R.un
            | with_reducible apply R.u1
            | with_reducible apply R.tup
            | with_reducible apply R.lst
            | with_reducible apply R.call
            | with_reducible apply R.callB
            | with_reducible apply R.gtup
            | with_reducible apply R.gnil
            | with_reducible apply R.seq
            | with_reducible apply R.asg
            | with_reducible apply R.ret
            | with_reducible apply R.next
            | with_reducible apply R.drop
            | with_reducible apply R.par
            | with_reducible apply R.par2
            | with_reducible apply R.ifs
            | with_reducible apply R.tif
            | with_reducible apply R.test
            | with_reducible apply R.tb'
            | with_reducible apply R.isbl
            | with_reducible apply R.cmp
            | with_reducible apply R.t2i
            | with_reducible apply R.intp
            | with_reducible apply R.and
            | with_reducible apply R.or
            | with_reducible apply R.not
            | with_reducible apply R.andV
            | with_reducible apply R.orV
            | with_reducible apply R.notV
            | with_reducible apply R.chain
            | with_reducible apply R.tupL
            | with_reducible apply R.lstL
            | with_reducible apply R.cat
            | with_reducible apply R.isiT
            | with_reducible apply R.isiTup
            | with_reducible apply R.isiLst
            | with_reducible apply R.nwT
            | with_reducible apply R.nwL
            | ((with_reducible apply R.mt); intro HN tn sn nn ht)
            | ((with_reducible apply R.ml); intro HN tn sn nn ht)
            | ((with_reducible apply R.ne4); focus ((repeat' (first | with_reducible assumption | with_reducible apply hU | ((with_reducible apply SqT.of); with_reducible assumption) | ((with_reducible apply same_seqT); with_reducible assumption) | ((with_reducible apply kp_seqT); with_reducible assumption) | ((with_reducible apply Dw.same); with_reducible assumption))); done))
            | ((with_reducible apply R.ne3); focus ((repeat' (first | with_reducible assumption | with_reducible apply hU | ((with_reducible apply SqT.of); with_reducible assumption) | ((with_reducible apply same_seqT); with_reducible assumption) | ((with_reducible apply kp_seqT); with_reducible assumption) | ((with_reducible apply Dw.same); with_reducible assumption))); done))
            | ((with_reducible apply R.ne2); focus ((repeat' (first | with_reducible assumption | with_reducible apply hU | ((with_reducible apply SqT.of); with_reducible assumption) | ((with_reducible apply same_seqT); with_reducible assumption) | ((with_reducible apply kp_seqT); with_reducible assumption) | ((with_reducible apply Dw.same); with_reducible assumption))); done))
            | ((with_reducible apply R.eq4); focus ((repeat' (first | with_reducible assumption | with_reducible apply hU | ((with_reducible apply SqT.of); with_reducible assumption) | ((with_reducible apply same_seqT); with_reducible assumption) | ((with_reducible apply kp_seqT); with_reducible assumption) | ((with_reducible apply Dw.same); with_reducible assumption))); done))
            | ((with_reducible apply R.eq3); focus ((repeat' (first | with_reducible assumption | with_reducible apply hU | ((with_reducible apply SqT.of); with_reducible assumption) | ((with_reducible apply same_seqT); with_reducible assumption) | ((with_reducible apply kp_seqT); with_reducible assumption) | ((with_reducible apply Dw.same); with_reducible assumption))); done))
            | ((with_reducible apply R.eq2); focus ((repeat' (first | with_reducible assumption | with_reducible apply hU | ((with_reducible apply SqT.of); with_reducible assumption) | ((with_reducible apply same_seqT); with_reducible assumption) | ((with_reducible apply kp_seqT); with_reducible assumption) | ((with_reducible apply Dw.same); with_reducible assumption))); done))
            | with_reducible apply uLawNext
            | with_reducible apply uLawWide
            | with_reducible apply uMultiply
            | with_reducible apply uDeterminant
            | with_reducible apply uApply
            | with_reducible apply uNegative
            | with_reducible apply uLawAt
            | with_reducible apply uLawMul
            | with_reducible apply uInverse
            | ((with_reducible apply R.nw); intro HN tn sn ht)
            | with_reducible apply iteT
            | with_reducible apply iteF
            | ((with_reducible apply SqT.of); with_reducible assumption)
            | ((with_reducible apply SqL.of); with_reducible assumption)
            | ((with_reducible apply same_seqT); with_reducible assumption)
            | ((with_reducible apply sameB); with_reducible assumption)
            | ((with_reducible apply same_at); with_reducible assumption)
            | ((with_reducible apply kp_seqT); with_reducible assumption)
            | ((with_reducible apply Same.seq); with_reducible assumption)
            | ((with_reducible apply Kp.seqL); with_reducible assumption)
            | ((with_reducible apply fresh_ne); with_reducible assumption)
            | ((with_reducible apply Dw.same); with_reducible assumption)
            | ((with_reducible apply R.isEq); exact eq_true (by first | decide | omega))
            | ((with_reducible apply R.isLt); first | decide | omega)
            | ((with_reducible apply R.isLtI); first | decide | omega)
            | ((with_reducible apply R.isLeI); first | decide | omega)
            | ((with_reducible apply R.cdiv); exact rfl)
            | ((with_reducible apply R.cpow); exact rfl)
            | with_reducible apply hU
            | ((with_reducible apply wayNF); first | exact rfl | exact ⟨rfl, rfl⟩ | exact ⟨rfl, rfl, rfl⟩ | exact ⟨rfl, rfl, rfl, rfl⟩)
            | with_reducible apply R.forE
            | with_reducible apply R.rng1
            | with_reducible apply R.rng2
            | with_reducible apply R.rg1
            | with_reducible apply R.rg2
            | with_reducible apply R.lcE
            | with_reducible apply R.itup
            | with_reducible apply R.ilst
            )
        · (repeat' (first | with_reducible exact Kp.refl | with_reducible assumption | ((with_reducible apply kpB); first | with_reducible assumption | ((with_reducible apply same_kp); with_reducible assumption))))
        · skip
          repeat' (first
            | with_reducible apply R.var
            | ((with_reducible apply R.isEq); exact rfl)
            | with_reducible apply R.op
            | with_reducible apply R.i2
            | with_reducible apply R.i0
            | with_reducible apply R.con
            | with_reducible apply R.cons
            | with_reducible apply R.nil
            | with_reducible apply R.gcons
            | with_reducible apply R.gname
            | ((with_reducible apply R.ixT); (focus ((repeat' (first | with_reducible assumption | with_reducible apply hU | ((with_reducible apply SqT.of); with_reducible assumption) | ((with_reducible apply same_seqT); with_reducible assumption) | ((with_reducible apply kp_seqT); with_reducible assumption) | ((with_reducible apply Dw.same); with_reducible assumption))); done)); exact rfl)
            | ((with_reducible apply R.ixL); (focus ((repeat' (first | with_reducible assumption | ((with_reducible apply SqL.of); with_reducible assumption) | ((with_reducible apply Same.seq); with_reducible assumption) | ((with_reducible apply Kp.seqL); with_reducible assumption) | ((with_reducible apply fresh_ne); with_reducible assumption) | ((with_reducible apply Dw.same); with_reducible assumption))); done)); exact rfl)
            | with_reducible assumption
            | with_reducible apply Bd.mulW
            | with_reducible apply Bd.mul
            | with_reducible apply Bd.add
            | with_reducible apply Bd.sub
            | ((with_reducible apply Bd.l8); exact eq_true (by decide))
            | ((with_reducible apply Bd.lit); exact eq_true (by decide))
            | with_reducible apply Bd.neg
            | with_reducible apply Bd.div
            | ((with_reducible apply Bd.om); omega)
            | ((with_reducible apply R.isLe); first | decide | omega)
            | with_reducible apply R.un
            | with_reducible apply R.u1
            | with_reducible apply R.tup
            | with_reducible apply R.lst
            | with_reducible apply R.call
            | with_reducible apply R.callB
            | with_reducible apply R.gtup
            | with_reducible apply R.gnil
            | with_reducible apply R.seq
            | with_reducible apply R.asg
            | with_reducible apply R.ret
            | with_reducible apply R.next
            | with_reducible apply R.drop
            | with_reducible apply R.par
            | with_reducible apply R.par2
            | with_reducible apply R.ifs
            | with_reducible apply R.tif
            | with_reducible apply R.test
            | with_reducible apply R.tb'
            | with_reducible apply R.isbl
            | with_reducible apply R.cmp
            | with_reducible apply R.t2i
            | with_reducible apply R.intp
            | with_reducible apply R.and
            | with_reducible apply R.or
            | with_reducible apply R.not
            | with_reducible apply R.andV
            | with_reducible apply R.orV
            | with_reducible apply R.notV
            | with_reducible apply R.chain
            | with_reducible apply R.tupL
            | with_reducible apply R.lstL
            | with_reducible apply R.cat
            | with_reducible apply R.isiT
            | with_reducible apply R.isiTup
            | with_reducible apply R.isiLst
            | with_reducible apply R.nwT
            | with_reducible apply R.nwL
            | ((with_reducible apply R.mt); intro HN tn sn nn ht)
            | ((with_reducible apply R.ml); intro HN tn sn nn ht)
            | ((with_reducible apply R.ne4); focus ((repeat' (first | with_reducible assumption | with_reducible apply hU | ((with_reducible apply SqT.of); with_reducible assumption) | ((with_reducible apply same_seqT); with_reducible assumption) | ((with_reducible apply kp_seqT); with_reducible assumption) | ((with_reducible apply Dw.same); with_reducible assumption))); done))
            | ((with_reducible apply R.ne3); focus ((repeat' (first | with_reducible assumption | with_reducible apply hU | ((with_reducible apply SqT.of); with_reducible assumption) | ((with_reducible apply same_seqT); with_reducible assumption) | ((with_reducible apply kp_seqT); with_reducible assumption) | ((with_reducible apply Dw.same); with_reducible assumption))); done))
            | ((with_reducible apply R.ne2); focus ((repeat' (first | with_reducible assumption | with_reducible apply hU | ((with_reducible apply SqT.of); with_reducible assumption) | ((with_reducible apply same_seqT); with_reducible assumption) | ((with_reducible apply kp_seqT); with_reducible assumption) | ((with_reducible apply Dw.same); with_reducible assumption))); done))
            | ((with_reducible apply R.eq4); focus ((repeat' (first | with_reducible assumption | with_reducible apply hU | ((with_reducible apply SqT.of); with_reducible assumption) | ((with_reducible apply same_seqT); with_reducible assumption) | ((with_reducible apply kp_seqT); with_reducible assumption) | ((with_reducible apply Dw.same); with_reducible assumption))); done))
            | ((with_reducible apply R.eq3); focus ((repeat' (first | with_reducible assumption | with_reducible apply hU | ((with_reducible apply SqT.of); with_reducible assumption) | ((with_reducible apply same_seqT); with_reducible assumption) | ((with_reducible apply kp_seqT); with_reducible assumption) | ((with_reducible apply Dw.same); with_reducible assumption))); done))
            | ((with_reducible apply R.eq2); focus ((repeat' (first | with_reducible assumption | with_reducible apply hU | ((with_reducible apply SqT.of); with_reducible assumption) | ((with_reducible apply same_seqT); with_reducible assumption) | ((with_reducible apply kp_seqT); with_reducible assumption) | ((with_reducible apply Dw.same); with_reducible assumption))); done))
            | with_reducible apply uLawNext
            | with_reducible apply uLawWide
            | with_reducible apply uMultiply
            | with_reducible apply uDeterminant
            | with_reducible apply uApply
            | with_reducible apply uNegative
            | with_reducible apply uLawAt
            | with_reducible apply uLawMul
            | with_reducible apply uInverse
            | ((with_reducible apply R.nw); intro HN tn sn ht)
            | with_reducible apply iteT
            | with_reducible apply iteF
            | ((with_reducible apply SqT.of); with_reducible assumption)
            | ((with_reducible apply SqL.of); with_reducible assumption)
            | ((with_reducible apply same_seqT); with_reducible assumption)
            | ((with_reducible apply sameB); with_reducible assumption)
            | ((with_reducible apply same_at); with_reducible assumption)
            | ((with_reducible apply kp_seqT); with_reducible assumption)
            | ((with_reducible apply Same.seq); with_reducible assumption)
            | ((with_reducible apply Kp.seqL); with_reducible assumption)
            | ((with_reducible apply fresh_ne); with_reducible assumption)
            | ((with_reducible apply Dw.same); with_reducible assumption)
            | ((with_reducible apply R.isEq); exact eq_true (by first | decide | omega))
            | ((with_reducible apply R.isLt); first | decide | omega)
            | ((with_reducible apply R.isLtI); first | decide | omega)
            | ((with_reducible apply R.isLeI); first | decide | omega)
            | ((with_reducible apply R.cdiv); exact rfl)
            | ((with_reducible apply R.cpow); exact rfl)
            | with_reducible apply hU
            | ((with_reducible apply wayNF); first | exact rfl | exact ⟨rfl, rfl⟩ | exact ⟨rfl, rfl, rfl⟩ | exact ⟨rfl, rfl, rfl, rfl⟩)
            | with_reducible apply R.forE
            | with_reducible apply R.rng1
            | with_reducible apply R.rng2
            | with_reducible apply R.rg1
            | with_reducible apply R.rg2
            | with_reducible apply R.lcE
            | with_reducible apply R.itup
            | with_reducible apply R.ilst
            )
        · exact l2.s3
    · obtain ⟨b, m1, m2, m3, m4, x3, x4, rfl, d2, k2, s2, l2⟩ := hPv
      repeat' (first
        | with_reducible apply R.var
        | ((with_reducible apply R.isEq); exact rfl)
        | with_reducible apply R.op
        | with_reducible apply R.i2
        | with_reducible apply R.i0
        | with_reducible apply R.con
        | with_reducible apply R.cons
        | with_reducible apply R.nil
        | with_reducible apply R.gcons
        | with_reducible apply R.gname
        | ((with_reducible apply R.ixT); (focus ((repeat' (first | with_reducible assumption | with_reducible apply hU | ((with_reducible apply SqT.of); with_reducible assumption) | ((with_reducible apply same_seqT); with_reducible assumption) | ((with_reducible apply kp_seqT); with_reducible assumption) | ((with_reducible apply Dw.same); with_reducible assumption))); done)); exact rfl)
        | ((with_reducible apply R.ixL); (focus ((repeat' (first | with_reducible assumption | ((with_reducible apply SqL.of); with_reducible assumption) | ((with_reducible apply Same.seq); with_reducible assumption) | ((with_reducible apply Kp.seqL); with_reducible assumption) | ((with_reducible apply fresh_ne); with_reducible assumption) | ((with_reducible apply Dw.same); with_reducible assumption))); done)); exact rfl)
        | with_reducible assumption
        | with_reducible apply Bd.mulW
        | with_reducible apply Bd.mul
        | with_reducible apply Bd.add
        | with_reducible apply Bd.sub
        | ((with_reducible apply Bd.l8); exact eq_true (by decide))
        | ((with_reducible apply Bd.lit); exact eq_true (by decide))
        | with_reducible apply Bd.neg
        | with_reducible apply Bd.div
        | ((with_reducible apply Bd.om); omega)
        | ((with_reducible apply R.isLe); first | decide | omega)
        | with_reducible apply R.un
        | with_reducible apply R.u1
        | with_reducible apply R.tup
        | with_reducible apply R.lst
        | with_reducible apply R.call
        | with_reducible apply R.callB
        | with_reducible apply R.gtup
        | with_reducible apply R.gnil
        | with_reducible apply R.seq
        | with_reducible apply R.asg
        | with_reducible apply R.ret
        | with_reducible apply R.next
        | with_reducible apply R.drop
        | with_reducible apply R.par
        | with_reducible apply R.par2
        | with_reducible apply R.ifs
        | with_reducible apply R.tif
        | with_reducible apply R.test
        | with_reducible apply R.tb'
        | with_reducible apply R.isbl
        | with_reducible apply R.cmp
        | with_reducible apply R.t2i
        | with_reducible apply R.intp
        | with_reducible apply R.and
        | with_reducible apply R.or
        | with_reducible apply R.not
        | with_reducible apply R.andV
        | with_reducible apply R.orV
        | with_reducible apply R.notV
        | with_reducible apply R.chain
        | with_reducible apply R.tupL
        | with_reducible apply R.lstL
        | with_reducible apply R.cat
        | with_reducible apply R.isiT
        | with_reducible apply R.isiTup
        | with_reducible apply R.isiLst
        | with_reducible apply R.nwT
        | with_reducible apply R.nwL
        | ((with_reducible apply R.mt); intro HN tn sn nn ht)
        | ((with_reducible apply R.ml); intro HN tn sn nn ht)
        | ((with_reducible apply R.ne4); focus ((repeat' (first | with_reducible assumption | with_reducible apply hU | ((with_reducible apply SqT.of); with_reducible assumption) | ((with_reducible apply same_seqT); with_reducible assumption) | ((with_reducible apply kp_seqT); with_reducible assumption) | ((with_reducible apply Dw.same); with_reducible assumption))); done))
        | ((with_reducible apply R.ne3); focus ((repeat' (first | with_reducible assumption | with_reducible apply hU | ((with_reducible apply SqT.of); with_reducible assumption) | ((with_reducible apply same_seqT); with_reducible assumption) | ((with_reducible apply kp_seqT); with_reducible assumption) | ((with_reducible apply Dw.same); with_reducible assumption))); done))
        | ((with_reducible apply R.ne2); focus ((repeat' (first | with_reducible assumption | with_reducible apply hU | ((with_reducible apply SqT.of); with_reducible assumption) | ((with_reducible apply same_seqT); with_reducible assumption) | ((with_reducible apply kp_seqT); with_reducible assumption) | ((with_reducible apply Dw.same); with_reducible assumption))); done))
        | ((with_reducible apply R.eq4); focus ((repeat' (first | with_reducible assumption | with_reducible apply hU | ((with_reducible apply SqT.of); with_reducible assumption) | ((with_reducible apply same_seqT); with_reducible assumption) | ((with_reducible apply kp_seqT); with_reducible assumption) | ((with_reducible apply Dw.same); with_reducible assumption))); done))
        | ((with_reducible apply R.eq3); focus ((repeat' (first | with_reducible assumption | with_reducible apply hU | ((with_reducible apply SqT.of); with_reducible assumption) | ((with_reducible apply same_seqT); with_reducible assumption) | ((with_reducible apply kp_seqT); with_reducible assumption) | ((with_reducible apply Dw.same); with_reducible assumption))); done))
        | ((with_reducible apply R.eq2); focus ((repeat' (first | with_reducible assumption | with_reducible apply hU | ((with_reducible apply SqT.of); with_reducible assumption) | ((with_reducible apply same_seqT); with_reducible assumption) | ((with_reducible apply kp_seqT); with_reducible assumption) | ((with_reducible apply Dw.same); with_reducible assumption))); done))
        | with_reducible apply uLawNext
        | with_reducible apply uLawWide
        | with_reducible apply uMultiply
        | with_reducible apply uDeterminant
        | with_reducible apply uApply
        | with_reducible apply uNegative
        | with_reducible apply uLawAt
        | with_reducible apply uLawMul
        | with_reducible apply uInverse
        | ((with_reducible apply R.nw); intro HN tn sn ht)
        | with_reducible apply iteT
        | with_reducible apply iteF
        | ((with_reducible apply SqT.of); with_reducible assumption)
        | ((with_reducible apply SqL.of); with_reducible assumption)
        | ((with_reducible apply same_seqT); with_reducible assumption)
        | ((with_reducible apply sameB); with_reducible assumption)
        | ((with_reducible apply same_at); with_reducible assumption)
        | ((with_reducible apply kp_seqT); with_reducible assumption)
        | ((with_reducible apply Same.seq); with_reducible assumption)
        | ((with_reducible apply Kp.seqL); with_reducible assumption)
        | ((with_reducible apply fresh_ne); with_reducible assumption)
        | ((with_reducible apply Dw.same); with_reducible assumption)
        | ((with_reducible apply R.isEq); exact eq_true (by first | decide | omega))
        | ((with_reducible apply R.isLt); first | decide | omega)
        | ((with_reducible apply R.isLtI); first | decide | omega)
        | ((with_reducible apply R.isLeI); first | decide | omega)
        | ((with_reducible apply R.cdiv); exact rfl)
        | ((with_reducible apply R.cpow); exact rfl)
        | with_reducible apply hU
        | ((with_reducible apply wayNF); first | exact rfl | exact ⟨rfl, rfl⟩ | exact ⟨rfl, rfl, rfl⟩ | exact ⟨rfl, rfl, rfl, rfl⟩)
        | with_reducible apply R.forE
        | with_reducible apply R.rng1
        | with_reducible apply R.rng2
        | with_reducible apply R.rg1
        | with_reducible apply R.rg2
        | with_reducible apply R.lcE
        | with_reducible apply R.itup
        | with_reducible apply R.ilst
        )
      exact kk _ _ _ _ _ _ (d2.mono (by omega)) (by (repeat' (first | with_reducible exact Kp.refl | with_reducible assumption | ((with_reducible apply kpB); first | with_reducible assumption | ((with_reducible apply same_kp); with_reducible assumption))))) s2 (l2.mono (by omega))
def spLaw (K : PySem.W.Frag) : Sp := fun vs H Q _ => ∃ (a : Addr) (ns : List Int), vs = [.ref a] ∧ SqL K H a (ns.map V.int) ∧ ns.length ≤ 63 ∧ ∀ H', Q (.bl true) H'
theorem okLaw (T : Txt K mg fa fd) : FnOk P w K mg base CX0 15 (fa 15) (fd 15) ["script"] (spLaw K) := by
  refine T.F_law.ok scLaw (fun vs H Q E h => ?_) (fun cdv A outer s H vs Q E hr h => ?_)
  · obtain ⟨l, ns, rfl, hS, hlen, qq⟩ := h
    rfl
  · obtain ⟨l, ns, rfl, hS, hlen, qq⟩ := h
    refine ⟨_, (pss_cons (ps_set (i := 1) scLaw.nd rfl (Or.inr rfl) (pe_call (sp := spLawState K) (okLawState T) (hr.mono (by decide)) (by rfl) T.G__law_state T.F__law_state.kp T.B__law_state .nil pass0 (pa_cons (pv 0) pa_nil)))
      (pss_cons (ps_set (i := 3) scLaw.nd rfl (Or.inl rfl) (pe_callTy (tupQ K) (by rfl) T.m_tuple (by decide +kernel) (pa_cons (pe_lc (own := [("k", 2)]) (g := gName 2) (tt := tYes) rfl scLaw.nd (pi_range1 (by rfl) T.m_range (pa_cons pe_int pa_nil)) (blkOk_by (own := [("k", 2)]) (N := ["script", "state", "k", "m", "n", "x", "y", "step", "t", "many", "back", "power", "part"]) (sc := defScope sLaw) (by decide +kernel)) (fun _ _ _ _ _ => (pg_name (i := 2) scLaw.nd rfl (Or.inl rfl))) (fun _ _ _ _ _ => pts_nil) (fun _ _ _ _ _ => (pe_op op_sub (pe_call (sp := spLawWide K) (okLawWide T) (hr.mono (by decide)) (by rfl) T.G__law_wide T.F__law_wide.kp T.B__law_wide .nil pass0 (pa_cons (pv 1) (pa_cons (pe_op op_pow pe_int pe_int) pa_nil))) pe_int))) pa_nil)))
      (pss_cons (ps_set (i := 4) scLaw.nd rfl (Or.inl rfl) (pe_callTy (tupQ K) (by rfl) T.m_tuple (by decide +kernel) (pa_cons (pe_lc (own := [("k", 2)]) (g := gName 2) (tt := tYes) rfl scLaw.nd (pi_range1 (by rfl) T.m_range (pa_cons pe_int pa_nil)) (blkOk_by (own := [("k", 2)]) (N := ["script", "state", "k", "m", "n", "x", "y", "step", "t", "many", "back", "power", "part"]) (sc := defScope sLaw) (by decide +kernel)) (fun _ _ _ _ _ => (pg_name (i := 2) scLaw.nd rfl (Or.inl rfl))) (fun _ _ _ _ _ => pts_nil) (fun _ _ _ _ _ => (pe_op op_sub (pe_call (sp := spLawNext K) (okLawNext T) (hr.mono (by decide)) (by rfl) T.G__law_next T.F__law_next.kp T.B__law_next .nil pass0 (pa_cons (pv 1) (pa_cons pe_int pa_nil))) pe_int))) pa_nil)))
      (pss_cons (ps_set (i := 5) scLaw.nd rfl (Or.inl rfl) (pe_op op_sub (pe_call (sp := spLawNext K) (okLawNext T) (hr.mono (by decide)) (by rfl) T.G__law_next T.F__law_next.kp T.B__law_next .nil pass0 (pa_cons (pv 1) (pa_cons pe_int pa_nil))) pe_int))
      (pss_cons (ps_set (i := 6) scLaw.nd rfl (Or.inl rfl) (pe_op op_sub (pe_call (sp := spLawNext K) (okLawNext T) (hr.mono (by decide)) (by rfl) T.G__law_next T.F__law_next.kp T.B__law_next .nil pass0 (pa_cons (pv 1) (pa_cons pe_int pa_nil))) pe_int))
      (pss_cons (ps_if (PW.pt (pw_or (pt_cmpR (neDQ K hr.units) (pe_glob (v := .ref (fa 16)) (by rfl) T.g_UNIT rfl) (pe_tup (pa_cons pe_int (pa_cons pe_int (pa_cons pe_int (pa_cons pe_int pa_nil))))) (nomark _)) (pw_or (pt_cmpR (neDQ K hr.units) (pe_call (sp := spMultiply K) (okMultiply T) (hr.mono (by decide)) (by rfl) T.G_multiply T.F_multiply.kp T.B_multiply .nil pass0 (pa_cons (pv 3) (pa_cons (pv 4) pa_nil))) (pe_call (sp := spLawMul K) (okLawMul T) (hr.mono (by decide)) (by rfl) T.G__law_mul T.F__law_mul.kp T.B__law_mul .nil pass0 (pa_cons (pv 3) (pa_cons (pv 4) pa_nil))) (nomark _)) (pw_or1 (pt_cmpR (neDQ K hr.units) (pe_call (sp := spApply K) (okApply T) (hr.mono (by decide)) (by rfl) T.G_apply T.F_apply.kp T.B_apply .nil pass0 (pa_cons (pv 3) (pa_cons (pe_tup (pa_cons (pv 5) (pa_cons (pv 6) pa_nil))) pa_nil))) (pe_call (sp := spLawAt K) (okLawAt T) (hr.mono (by decide)) (by rfl) T.G__law_at T.F__law_at.kp T.B__law_at .nil pass0 (pa_cons (pv 3) (pa_cons (pv 5) (pa_cons (pv 6) pa_nil)))) (nomark _))))))
      (pss_one (ps_ret pe_bl))
      pss_nil)
      (pss_cons (ps_if (PW.pt (pw_or (pt_cmp (pc_neI (pe_call (sp := spDeterminant K) (okDeterminant T) (hr.mono (by decide)) (by rfl) T.G_determinant T.F_determinant.kp T.B_determinant .nil pass0 (pa_cons (pv 3) pa_nil)) (pe_op op_sub (pe_op op_mulW (pe_ix (ixT K) (pv 3) pe_int (fun _ _ => rfl)) (pe_ix (ixT K) (pv 3) pe_int (fun _ _ => rfl))) (pe_op op_mulW (pe_ix (ixT K) (pv 3) pe_int (fun _ _ => rfl)) (pe_ix (ixT K) (pv 3) pe_int (fun _ _ => rfl)))))) (pw_or1 (pt_cmpR (neDQ K hr.units) (pe_call (sp := spNegative K) (okNegative T) (hr.mono (by decide)) (by rfl) T.G_negative T.F_negative.kp T.B_negative .nil pass0 (pa_cons (pv 3) pa_nil)) (pe_callTy (tupQ K) (by rfl) T.m_tuple (by decide +kernel) (pa_cons (pe_lc (own := [("part", 12)]) (g := gName 12) (tt := tYes) rfl scLaw.nd (piT K (pv 3)) (blkOk_by (own := [("part", 12)]) (N := ["script", "state", "k", "m", "n", "x", "y", "step", "t", "many", "back", "power", "part"]) (sc := defScope sLaw) (by decide +kernel)) (fun _ _ _ _ _ => (pg_name (i := 12) scLaw.nd rfl (Or.inl rfl))) (fun _ _ _ _ _ => pts_nil) (fun _ _ _ _ _ => (pe_un un_neg (pv 12)))) pa_nil)) (nomark _)))))
      (pss_one (ps_ret pe_bl))
      pss_nil)
      (pss_cons (ps_set (i := 7) scLaw.nd rfl (Or.inl rfl) (pe_call (sp := spLawChange K) (okLawChange T) (hr.mono (by decide)) (by rfl) T.G__law_change T.F__law_change.kp T.B__law_change .nil pass0 (pa_cons (pv 1) (pa_cons pe_int pa_nil))))
      (C8.pss_cut (ps_if (pt_cmp (pc_eqI (pe_call (sp := spLawNext K) (okLawNext T) (hr.mono (by decide)) (by rfl) T.G__law_next T.F__law_next.kp T.B__law_next .nil pass0 (pa_cons (pv 1) (pa_cons pe_int pa_nil))) pe_int))
      (pss_one (ps_set (i := 7) scLaw.nd rfl (Or.inl rfl) (pe_call (sp := spLawMul K) (okLawMul T) (hr.mono (by decide)) (by rfl) T.G__law_mul T.F__law_mul.kp T.B__law_mul .nil pass0 (pa_cons (pv 7) (pa_cons (pe_tup (pa_cons pe_int (pa_cons pe_int (pa_cons pe_int (pa_cons (pe_un un_neg pe_int) pa_nil))))) pa_nil)))))
      pss_nil)
      (pss_cons (ps_set (i := 8) scLaw.nd rfl (Or.inl rfl) (pe_op op_sub (pe_call (sp := spLawNext K) (okLawNext T) (hr.mono (by decide)) (by rfl) T.G__law_next T.F__law_next.kp T.B__law_next .nil pass0 (pa_cons (pv 1) (pa_cons pe_int pa_nil))) pe_int))
      (pss_cons (ps_set (i := 9) scLaw.nd rfl (Or.inl rfl) (pe_ix (ixL K) (pe_lst (pa_cons pe_int (pa_cons (pe_un un_neg pe_int) (pa_cons pe_int pa_nil)))) (pe_call (sp := spLawNext K) (okLawNext T) (hr.mono (by decide)) (by rfl) T.G__law_next T.F__law_next.kp T.B__law_next .nil pass0 (pa_cons (pv 1) (pa_cons pe_int pa_nil))) (fun _ _ => rfl)))
      (pss_cons (ps_if (PW.pt (pw_or (pt_cmpR (neDQ K hr.units) (pe_call (sp := spRaised K) (okRaised T) hr (by rfl) T.G_raised T.F_raised.kp T.B_raised .nil pass0 (pa_cons (pe_tup (pa_cons pe_int (pa_cons (pv 8) (pa_cons pe_int (pa_cons pe_int pa_nil))))) (pa_cons (pv 9) pa_nil))) (pe_tup (pa_cons pe_int (pa_cons (pe_op op_mulW (pv 8) (pv 9)) (pa_cons pe_int (pa_cons pe_int pa_nil))))) (nomark _)) (pw_or1 (pt_cmpR (neDQ K hr.units) (pe_call (sp := spRaised K) (okRaised T) hr (by rfl) T.G_raised T.F_raised.kp T.B_raised .nil pass0 (pa_cons (pe_tup (pa_cons pe_int (pa_cons pe_int (pa_cons (pv 8) (pa_cons (pe_un un_neg pe_int) pa_nil))))) (pa_cons pe_int pa_nil))) (pe_glob (v := .ref (fa 16)) (by rfl) T.g_UNIT rfl) (nomark _)))))
      (pss_one (ps_ret pe_bl))
      pss_nil)
      (pss_cons (ps_set (i := 10) scLaw.nd rfl (Or.inl rfl) (pe_call (sp := spInverse K) (okInverse T) (hr.mono (by decide)) (by rfl) T.G_inverse T.F_inverse.kp T.B_inverse .nil pass0 (pa_cons (pv 7) pa_nil)))
      (pss_cons (ps_if (PW.pt (pw_or (pt_cmpR (neDQ K hr.units) (pe_call (sp := spLawMul K) (okLawMul T) (hr.mono (by decide)) (by rfl) T.G__law_mul T.F__law_mul.kp T.B__law_mul .nil pass0 (pa_cons (pv 7) (pa_cons (pv 10) pa_nil))) (pe_tup (pa_cons pe_int (pa_cons pe_int (pa_cons pe_int (pa_cons pe_int pa_nil))))) (nomark _)) (pw_or1 (pt_cmpR (neDQ K hr.units) (pe_call (sp := spLawMul K) (okLawMul T) (hr.mono (by decide)) (by rfl) T.G__law_mul T.F__law_mul.kp T.B__law_mul .nil pass0 (pa_cons (pv 10) (pa_cons (pv 7) pa_nil))) (pe_tup (pa_cons pe_int (pa_cons pe_int (pa_cons pe_int (pa_cons pe_int pa_nil))))) (nomark _)))))
      (pss_one (ps_ret pe_bl))
      pss_nil)
      (pss_cons (ps_set (i := 9) scLaw.nd rfl (Or.inl rfl) (pe_ix (ixL K) (pe_lst (pa_cons (pe_call (sp := spLawNext K) (okLawNext T) (hr.mono (by decide)) (by rfl) T.G__law_next T.F__law_next.kp T.B__law_next .nil pass0 (pa_cons (pv 1) (pa_cons pe_int pa_nil))) (pa_cons (pe_call (sp := spLawNext K) (okLawNext T) (hr.mono (by decide)) (by rfl) T.G__law_next T.F__law_next.kp T.B__law_next .nil pass0 (pa_cons (pv 1) (pa_cons pe_int pa_nil))) pa_nil))) (pe_callTy call_int1 (by rfl) T.m_int (by decide +kernel) (pa_cons (pe_cmp (pc_eqI (pe_call (sp := spLawNext K) (okLawNext T) (hr.mono (by decide)) (by rfl) T.G__law_next T.F__law_next.kp T.B__law_next .nil pass0 (pa_cons (pv 1) (pa_cons pe_int pa_nil))) pe_int)) pa_nil)) (fun _ _ => rfl)))
      (pss_cons (ps_set (i := 11) scLaw.nd rfl (Or.inl rfl) (pe_tup (pa_cons pe_int (pa_cons pe_int (pa_cons pe_int (pa_cons pe_int pa_nil))))))
      (pss_cons (ps_for PassesOwn.never rfl (pi_range1 (by rfl) T.m_range (pa_cons (pv 9) pa_nil)) (pg_name (i := 2) scLaw.nd rfl (Or.inl rfl))
      (pss_one (ps_set (i := 11) scLaw.nd rfl (Or.inl rfl) (pe_call (sp := spLawMul K) (okLawMul T) (hr.mono (by decide)) (by rfl) T.G__law_mul T.F__law_mul.kp T.B__law_mul .nil pass0 (pa_cons (pv 11) (pa_cons (pv 7) pa_nil))))))
      (pss_one (ps_ret (pe_and (pe_cmpR (eqDQ K hr.units) (pe_call (sp := spRaised K) (okRaised T) hr (by rfl) T.G_raised T.F_raised.kp T.B_raised .nil pass0 (pa_cons (pv 7) (pa_cons (pv 9) pa_nil))) (pv 11) (nomark _)) (pe_one (pe_cmpR (eqDQ K hr.units) (pe_call (sp := spLawMul K) (okLawMul T) (hr.mono (by decide)) (by rfl) T.G__law_mul T.F__law_mul.kp T.B__law_mul .nil pass0 (pa_cons (pe_call (sp := spRaised K) (okRaised T) hr (by rfl) T.G_raised T.F_raised.kp T.B_raised .nil pass0 (pa_cons (pv 7) (pa_cons (pe_un un_neg (pv 9)) pa_nil))) (pa_cons (pv 11) pa_nil))) (pe_tup (pa_cons pe_int (pa_cons pe_int (pa_cons pe_int (pa_cons pe_int pa_nil))))) (nomark _))))))))))))))))))))))), ?_⟩
    have hU := fun H => T.S_UNIT H
    repeat' (first
      | with_reducible apply R.var
      | ((with_reducible apply R.isEq); exact rfl)
      | with_reducible apply R.op
      | with_reducible apply R.i2
      | with_reducible apply R.i0
      | with_reducible apply R.con
      | with_reducible apply R.cons
      | with_reducible apply R.nil
      | with_reducible apply R.gcons
      | with_reducible apply R.gname
      | ((with_reducible apply R.ixT); (focus ((repeat' (first | with_reducible assumption | with_reducible apply hU | ((with_reducible apply SqT.of); with_reducible assumption) | ((with_reducible apply same_seqT); with_reducible assumption) | ((with_reducible apply kp_seqT); with_reducible assumption) | ((with_reducible apply Dw.same); with_reducible assumption))); done)); exact rfl)
      | ((with_reducible apply R.ixL); (focus ((repeat' (first | with_reducible assumption | ((with_reducible apply SqL.of); with_reducible assumption) | ((with_reducible apply Same.seq); with_reducible assumption) | ((with_reducible apply Kp.seqL); with_reducible assumption) | ((with_reducible apply fresh_ne); with_reducible assumption) | ((with_reducible apply Dw.same); with_reducible assumption))); done)); exact rfl)
      | with_reducible assumption
      | with_reducible apply Bd.mulW
      | with_reducible apply Bd.mul
      | with_reducible apply Bd.add
      | with_reducible apply Bd.sub
      | ((with_reducible apply Bd.l8); exact eq_true (by decide))
      | ((with_reducible apply Bd.lit); exact eq_true (by decide))
      | with_reducible apply Bd.neg
      | with_reducible apply Bd.div
      | ((with_reducible apply Bd.om); omega)
      | ((with_reducible apply R.isLe); first | decide | omega)
      | with_reducible apply R.un
      | with_reducible apply R.u1
      | with_reducible apply R.tup
      | with_reducible apply R.lst
      | with_reducible apply R.call
      | with_reducible apply R.callB
      | with_reducible apply R.gtup
      | with_reducible apply R.gnil
      | with_reducible apply R.seq
      | with_reducible apply R.asg
      | with_reducible apply R.ret
      | with_reducible apply R.next
      | with_reducible apply R.drop
      | with_reducible apply R.par
      | with_reducible apply R.par2
      | with_reducible apply R.ifs
      | with_reducible apply R.tif
      | with_reducible apply R.test
      | with_reducible apply R.tb'
      | with_reducible apply R.isbl
      | with_reducible apply R.cmp
      | with_reducible apply R.t2i
      | with_reducible apply R.intp
      | with_reducible apply R.and
      | with_reducible apply R.or
      | with_reducible apply R.not
      | with_reducible apply R.andV
      | with_reducible apply R.orV
      | with_reducible apply R.notV
      | with_reducible apply R.chain
      | with_reducible apply R.tupL
      | with_reducible apply R.lstL
      | with_reducible apply R.cat
      | with_reducible apply R.isiT
      | with_reducible apply R.isiTup
      | with_reducible apply R.isiLst
      | with_reducible apply R.nwT
      | with_reducible apply R.nwL
      | ((with_reducible apply R.mt); intro HN tn sn nn ht)
      | ((with_reducible apply R.ml); intro HN tn sn nn ht)
      | ((with_reducible apply R.ne4); focus ((repeat' (first | with_reducible assumption | with_reducible apply hU | ((with_reducible apply SqT.of); with_reducible assumption) | ((with_reducible apply same_seqT); with_reducible assumption) | ((with_reducible apply kp_seqT); with_reducible assumption) | ((with_reducible apply Dw.same); with_reducible assumption))); done))
      | ((with_reducible apply R.ne3); focus ((repeat' (first | with_reducible assumption | with_reducible apply hU | ((with_reducible apply SqT.of); with_reducible assumption) | ((with_reducible apply same_seqT); with_reducible assumption) | ((with_reducible apply kp_seqT); with_reducible assumption) | ((with_reducible apply Dw.same); with_reducible assumption))); done))
      | ((with_reducible apply R.ne2); focus ((repeat' (first | with_reducible assumption | with_reducible apply hU | ((with_reducible apply SqT.of); with_reducible assumption) | ((with_reducible apply same_seqT); with_reducible assumption) | ((with_reducible apply kp_seqT); with_reducible assumption) | ((with_reducible apply Dw.same); with_reducible assumption))); done))
      | ((with_reducible apply R.eq4); focus ((repeat' (first | with_reducible assumption | with_reducible apply hU | ((with_reducible apply SqT.of); with_reducible assumption) | ((with_reducible apply same_seqT); with_reducible assumption) | ((with_reducible apply kp_seqT); with_reducible assumption) | ((with_reducible apply Dw.same); with_reducible assumption))); done))
      | ((with_reducible apply R.eq3); focus ((repeat' (first | with_reducible assumption | with_reducible apply hU | ((with_reducible apply SqT.of); with_reducible assumption) | ((with_reducible apply same_seqT); with_reducible assumption) | ((with_reducible apply kp_seqT); with_reducible assumption) | ((with_reducible apply Dw.same); with_reducible assumption))); done))
      | ((with_reducible apply R.eq2); focus ((repeat' (first | with_reducible assumption | with_reducible apply hU | ((with_reducible apply SqT.of); with_reducible assumption) | ((with_reducible apply same_seqT); with_reducible assumption) | ((with_reducible apply kp_seqT); with_reducible assumption) | ((with_reducible apply Dw.same); with_reducible assumption))); done))
      | with_reducible apply uLawNext
      | with_reducible apply uLawWide
      | with_reducible apply uLawChange
      | with_reducible apply uMultiply
      | with_reducible apply uDeterminant
      | with_reducible apply uApply
      | with_reducible apply uNegative
      | with_reducible apply uLawAt
      | with_reducible apply uLawMul
      | with_reducible apply uInverse
      | ((with_reducible apply R.nw); intro HN tn sn ht)
      | with_reducible apply iteT
      | with_reducible apply iteF
      | ((with_reducible apply SqT.of); with_reducible assumption)
      | ((with_reducible apply SqL.of); with_reducible assumption)
      | ((with_reducible apply same_seqT); with_reducible assumption)
      | ((with_reducible apply sameB); with_reducible assumption)
      | ((with_reducible apply same_at); with_reducible assumption)
      | ((with_reducible apply kp_seqT); with_reducible assumption)
      | ((with_reducible apply Same.seq); with_reducible assumption)
      | ((with_reducible apply Kp.seqL); with_reducible assumption)
      | ((with_reducible apply fresh_ne); with_reducible assumption)
      | ((with_reducible apply Dw.same); with_reducible assumption)
      | ((with_reducible apply R.isEq); exact eq_true (by first | decide | omega))
      | ((with_reducible apply R.isLt); first | decide | omega)
      | ((with_reducible apply R.isLtI); first | decide | omega)
      | ((with_reducible apply R.isLeI); first | decide | omega)
      | ((with_reducible apply R.cdiv); exact rfl)
      | ((with_reducible apply R.cpow); exact rfl)
      | with_reducible apply hU
      | ((with_reducible apply wayNF); first | exact rfl | exact ⟨rfl, rfl⟩ | exact ⟨rfl, rfl, rfl⟩ | exact ⟨rfl, rfl, rfl, rfl⟩)
      | with_reducible apply R.forE
      | with_reducible apply R.rng1
      | with_reducible apply R.rng2
      | with_reducible apply R.rg1
      | with_reducible apply R.rg2
      | with_reducible apply R.lcE
      | with_reducible apply R.itup
      | with_reducible apply R.ilst
      )
    refine ⟨l, ns, rfl, hS, fun H1 p a s1 d1 => ?_⟩
    repeat' (first
      | with_reducible apply R.var
      | ((with_reducible apply R.isEq); exact rfl)
      | with_reducible apply R.op
      | with_reducible apply R.i2
      | with_reducible apply R.i0
      | with_reducible apply R.con
      | with_reducible apply R.cons
      | with_reducible apply R.nil
      | with_reducible apply R.gcons
      | with_reducible apply R.gname
      | ((with_reducible apply R.ixT); (focus ((repeat' (first | with_reducible assumption | with_reducible apply hU | ((with_reducible apply SqT.of); with_reducible assumption) | ((with_reducible apply same_seqT); with_reducible assumption) | ((with_reducible apply kp_seqT); with_reducible assumption) | ((with_reducible apply Dw.same); with_reducible assumption))); done)); exact rfl)
      | ((with_reducible apply R.ixL); (focus ((repeat' (first | with_reducible assumption | ((with_reducible apply SqL.of); with_reducible assumption) | ((with_reducible apply Same.seq); with_reducible assumption) | ((with_reducible apply Kp.seqL); with_reducible assumption) | ((with_reducible apply fresh_ne); with_reducible assumption) | ((with_reducible apply Dw.same); with_reducible assumption))); done)); exact rfl)
      | with_reducible assumption
      | with_reducible apply Bd.mulW
      | with_reducible apply Bd.mul
      | with_reducible apply Bd.add
      | with_reducible apply Bd.sub
      | ((with_reducible apply Bd.l8); exact eq_true (by decide))
      | ((with_reducible apply Bd.lit); exact eq_true (by decide))
      | with_reducible apply Bd.neg
      | with_reducible apply Bd.div
      | ((with_reducible apply Bd.om); omega)
      | ((with_reducible apply R.isLe); first | decide | omega)
      | with_reducible apply R.un
      | with_reducible apply R.u1
      | with_reducible apply R.tup
      | with_reducible apply R.lst
      | with_reducible apply R.call
      | with_reducible apply R.callB
      | with_reducible apply R.gtup
      | with_reducible apply R.gnil
      | with_reducible apply R.seq
      | with_reducible apply R.asg
      | with_reducible apply R.ret
      | with_reducible apply R.next
      | with_reducible apply R.drop
      | with_reducible apply R.par
      | with_reducible apply R.par2
      | with_reducible apply R.ifs
      | with_reducible apply R.tif
      | with_reducible apply R.test
      | with_reducible apply R.tb'
      | with_reducible apply R.isbl
      | with_reducible apply R.cmp
      | with_reducible apply R.t2i
      | with_reducible apply R.intp
      | with_reducible apply R.and
      | with_reducible apply R.or
      | with_reducible apply R.not
      | with_reducible apply R.andV
      | with_reducible apply R.orV
      | with_reducible apply R.notV
      | with_reducible apply R.chain
      | with_reducible apply R.tupL
      | with_reducible apply R.lstL
      | with_reducible apply R.cat
      | with_reducible apply R.isiT
      | with_reducible apply R.isiTup
      | with_reducible apply R.isiLst
      | with_reducible apply R.nwT
      | with_reducible apply R.nwL
      | ((with_reducible apply R.mt); intro HN tn sn nn ht)
      | ((with_reducible apply R.ml); intro HN tn sn nn ht)
      | ((with_reducible apply R.ne4); focus ((repeat' (first | with_reducible assumption | with_reducible apply hU | ((with_reducible apply SqT.of); with_reducible assumption) | ((with_reducible apply same_seqT); with_reducible assumption) | ((with_reducible apply kp_seqT); with_reducible assumption) | ((with_reducible apply Dw.same); with_reducible assumption))); done))
      | ((with_reducible apply R.ne3); focus ((repeat' (first | with_reducible assumption | with_reducible apply hU | ((with_reducible apply SqT.of); with_reducible assumption) | ((with_reducible apply same_seqT); with_reducible assumption) | ((with_reducible apply kp_seqT); with_reducible assumption) | ((with_reducible apply Dw.same); with_reducible assumption))); done))
      | ((with_reducible apply R.ne2); focus ((repeat' (first | with_reducible assumption | with_reducible apply hU | ((with_reducible apply SqT.of); with_reducible assumption) | ((with_reducible apply same_seqT); with_reducible assumption) | ((with_reducible apply kp_seqT); with_reducible assumption) | ((with_reducible apply Dw.same); with_reducible assumption))); done))
      | ((with_reducible apply R.eq4); focus ((repeat' (first | with_reducible assumption | with_reducible apply hU | ((with_reducible apply SqT.of); with_reducible assumption) | ((with_reducible apply same_seqT); with_reducible assumption) | ((with_reducible apply kp_seqT); with_reducible assumption) | ((with_reducible apply Dw.same); with_reducible assumption))); done))
      | ((with_reducible apply R.eq3); focus ((repeat' (first | with_reducible assumption | with_reducible apply hU | ((with_reducible apply SqT.of); with_reducible assumption) | ((with_reducible apply same_seqT); with_reducible assumption) | ((with_reducible apply kp_seqT); with_reducible assumption) | ((with_reducible apply Dw.same); with_reducible assumption))); done))
      | ((with_reducible apply R.eq2); focus ((repeat' (first | with_reducible assumption | with_reducible apply hU | ((with_reducible apply SqT.of); with_reducible assumption) | ((with_reducible apply same_seqT); with_reducible assumption) | ((with_reducible apply kp_seqT); with_reducible assumption) | ((with_reducible apply Dw.same); with_reducible assumption))); done))
      | with_reducible apply uLawNext
      | with_reducible apply uLawWide
      | with_reducible apply uLawChange
      | with_reducible apply uMultiply
      | with_reducible apply uDeterminant
      | with_reducible apply uApply
      | with_reducible apply uNegative
      | with_reducible apply uLawAt
      | with_reducible apply uLawMul
      | with_reducible apply uInverse
      | ((with_reducible apply R.nw); intro HN tn sn ht)
      | with_reducible apply iteT
      | with_reducible apply iteF
      | ((with_reducible apply SqT.of); with_reducible assumption)
      | ((with_reducible apply SqL.of); with_reducible assumption)
      | ((with_reducible apply same_seqT); with_reducible assumption)
      | ((with_reducible apply sameB); with_reducible assumption)
      | ((with_reducible apply same_at); with_reducible assumption)
      | ((with_reducible apply kp_seqT); with_reducible assumption)
      | ((with_reducible apply Same.seq); with_reducible assumption)
      | ((with_reducible apply Kp.seqL); with_reducible assumption)
      | ((with_reducible apply fresh_ne); with_reducible assumption)
      | ((with_reducible apply Dw.same); with_reducible assumption)
      | ((with_reducible apply R.isEq); exact eq_true (by first | decide | omega))
      | ((with_reducible apply R.isLt); first | decide | omega)
      | ((with_reducible apply R.isLtI); first | decide | omega)
      | ((with_reducible apply R.isLeI); first | decide | omega)
      | ((with_reducible apply R.cdiv); exact rfl)
      | ((with_reducible apply R.cpow); exact rfl)
      | with_reducible apply hU
      | ((with_reducible apply wayNF); first | exact rfl | exact ⟨rfl, rfl⟩ | exact ⟨rfl, rfl, rfl⟩ | exact ⟨rfl, rfl, rfl, rfl⟩)
      | with_reducible apply R.forE
      | with_reducible apply R.rng1
      | with_reducible apply R.rng2
      | with_reducible apply R.rg1
      | with_reducible apply R.rg2
      | with_reducible apply R.lcE
      | with_reducible apply R.itup
      | with_reducible apply R.ilst
      )
    refine R.lcI (c := 6) (fun x => Bd 20 x) (by decide) d1 (fun i H' Q' hi d k q => ?_) (fun H2 D xs hD hl hx d2 k2 nD Dp => ?_)
    · skip
      repeat' (first
        | with_reducible apply R.var
        | ((with_reducible apply R.isEq); exact rfl)
        | with_reducible apply R.op
        | with_reducible apply R.i2
        | with_reducible apply R.i0
        | with_reducible apply R.con
        | with_reducible apply R.cons
        | with_reducible apply R.nil
        | with_reducible apply R.gcons
        | with_reducible apply R.gname
        | ((with_reducible apply R.ixT); (focus ((repeat' (first | with_reducible assumption | with_reducible apply hU | ((with_reducible apply SqT.of); with_reducible assumption) | ((with_reducible apply same_seqT); with_reducible assumption) | ((with_reducible apply kp_seqT); with_reducible assumption) | ((with_reducible apply Dw.same); with_reducible assumption))); done)); exact rfl)
        | ((with_reducible apply R.ixL); (focus ((repeat' (first | with_reducible assumption | ((with_reducible apply SqL.of); with_reducible assumption) | ((with_reducible apply Same.seq); with_reducible assumption) | ((with_reducible apply Kp.seqL); with_reducible assumption) | ((with_reducible apply fresh_ne); with_reducible assumption) | ((with_reducible apply Dw.same); with_reducible assumption))); done)); exact rfl)
        | with_reducible assumption
        | with_reducible apply Bd.mulW
        | with_reducible apply Bd.mul
        | with_reducible apply Bd.add
        | with_reducible apply Bd.sub
        | ((with_reducible apply Bd.l8); exact eq_true (by decide))
        | ((with_reducible apply Bd.lit); exact eq_true (by decide))
        | with_reducible apply Bd.neg
        | with_reducible apply Bd.div
        | ((with_reducible apply Bd.om); omega)
        | ((with_reducible apply R.isLe); first | decide | omega)
        | with_reducible apply R.un
        | with_reducible apply R.u1
        | with_reducible apply R.tup
        | with_reducible apply R.lst
        | with_reducible apply R.call
        | with_reducible apply R.callB
        | with_reducible apply R.gtup
        | with_reducible apply R.gnil
        | with_reducible apply R.seq
        | with_reducible apply R.asg
        | with_reducible apply R.ret
        | with_reducible apply R.next
        | with_reducible apply R.drop
        | with_reducible apply R.par
        | with_reducible apply R.par2
        | with_reducible apply R.ifs
        | with_reducible apply R.tif
        | with_reducible apply R.test
        | with_reducible apply R.tb'
        | with_reducible apply R.isbl
        | with_reducible apply R.cmp
        | with_reducible apply R.t2i
        | with_reducible apply R.intp
        | with_reducible apply R.and
        | with_reducible apply R.or
        | with_reducible apply R.not
        | with_reducible apply R.andV
        | with_reducible apply R.orV
        | with_reducible apply R.notV
        | with_reducible apply R.chain
        | with_reducible apply R.tupL
        | with_reducible apply R.lstL
        | with_reducible apply R.cat
        | with_reducible apply R.isiT
        | with_reducible apply R.isiTup
        | with_reducible apply R.isiLst
        | with_reducible apply R.nwT
        | with_reducible apply R.nwL
        | ((with_reducible apply R.mt); intro HN tn sn nn ht)
        | ((with_reducible apply R.ml); intro HN tn sn nn ht)
        | ((with_reducible apply R.ne4); focus ((repeat' (first | with_reducible assumption | with_reducible apply hU | ((with_reducible apply SqT.of); with_reducible assumption) | ((with_reducible apply same_seqT); with_reducible assumption) | ((with_reducible apply kp_seqT); with_reducible assumption) | ((with_reducible apply Dw.same); with_reducible assumption))); done))
        | ((with_reducible apply R.ne3); focus ((repeat' (first | with_reducible assumption | with_reducible apply hU | ((with_reducible apply SqT.of); with_reducible assumption) | ((with_reducible apply same_seqT); with_reducible assumption) | ((with_reducible apply kp_seqT); with_reducible assumption) | ((with_reducible apply Dw.same); with_reducible assumption))); done))
        | ((with_reducible apply R.ne2); focus ((repeat' (first | with_reducible assumption | with_reducible apply hU | ((with_reducible apply SqT.of); with_reducible assumption) | ((with_reducible apply same_seqT); with_reducible assumption) | ((with_reducible apply kp_seqT); with_reducible assumption) | ((with_reducible apply Dw.same); with_reducible assumption))); done))
        | ((with_reducible apply R.eq4); focus ((repeat' (first | with_reducible assumption | with_reducible apply hU | ((with_reducible apply SqT.of); with_reducible assumption) | ((with_reducible apply same_seqT); with_reducible assumption) | ((with_reducible apply kp_seqT); with_reducible assumption) | ((with_reducible apply Dw.same); with_reducible assumption))); done))
        | ((with_reducible apply R.eq3); focus ((repeat' (first | with_reducible assumption | with_reducible apply hU | ((with_reducible apply SqT.of); with_reducible assumption) | ((with_reducible apply same_seqT); with_reducible assumption) | ((with_reducible apply kp_seqT); with_reducible assumption) | ((with_reducible apply Dw.same); with_reducible assumption))); done))
        | ((with_reducible apply R.eq2); focus ((repeat' (first | with_reducible assumption | with_reducible apply hU | ((with_reducible apply SqT.of); with_reducible assumption) | ((with_reducible apply same_seqT); with_reducible assumption) | ((with_reducible apply kp_seqT); with_reducible assumption) | ((with_reducible apply Dw.same); with_reducible assumption))); done))
        | with_reducible apply uLawNext
        | with_reducible apply uLawWide
        | with_reducible apply uLawChange
        | with_reducible apply uMultiply
        | with_reducible apply uDeterminant
        | with_reducible apply uApply
        | with_reducible apply uNegative
        | with_reducible apply uLawAt
        | with_reducible apply uLawMul
        | with_reducible apply uInverse
        | ((with_reducible apply R.nw); intro HN tn sn ht)
        | with_reducible apply iteT
        | with_reducible apply iteF
        | ((with_reducible apply SqT.of); with_reducible assumption)
        | ((with_reducible apply SqL.of); with_reducible assumption)
        | ((with_reducible apply same_seqT); with_reducible assumption)
        | ((with_reducible apply sameB); with_reducible assumption)
        | ((with_reducible apply same_at); with_reducible assumption)
        | ((with_reducible apply kp_seqT); with_reducible assumption)
        | ((with_reducible apply Same.seq); with_reducible assumption)
        | ((with_reducible apply Kp.seqL); with_reducible assumption)
        | ((with_reducible apply fresh_ne); with_reducible assumption)
        | ((with_reducible apply Dw.same); with_reducible assumption)
        | ((with_reducible apply R.isEq); exact eq_true (by first | decide | omega))
        | ((with_reducible apply R.isLt); first | decide | omega)
        | ((with_reducible apply R.isLtI); first | decide | omega)
        | ((with_reducible apply R.isLeI); first | decide | omega)
        | ((with_reducible apply R.cdiv); exact rfl)
        | ((with_reducible apply R.cpow); exact rfl)
        | with_reducible apply hU
        | ((with_reducible apply wayNF); first | exact rfl | exact ⟨rfl, rfl⟩ | exact ⟨rfl, rfl, rfl⟩ | exact ⟨rfl, rfl, rfl, rfl⟩)
        | with_reducible apply R.forE
        | with_reducible apply R.rng1
        | with_reducible apply R.rng2
        | with_reducible apply R.rg1
        | with_reducible apply R.rg2
        | with_reducible apply R.lcE
        | with_reducible apply R.itup
        | with_reducible apply R.ilst
        )
      refine ⟨rfl, ?_⟩
      repeat' (first
        | with_reducible apply R.var
        | ((with_reducible apply R.isEq); exact rfl)
        | with_reducible apply R.op
        | with_reducible apply R.i2
        | with_reducible apply R.i0
        | with_reducible apply R.con
        | with_reducible apply R.cons
        | with_reducible apply R.nil
        | with_reducible apply R.gcons
        | with_reducible apply R.gname
        | ((with_reducible apply R.ixT); (focus ((repeat' (first | with_reducible assumption | with_reducible apply hU | ((with_reducible apply SqT.of); with_reducible assumption) | ((with_reducible apply same_seqT); with_reducible assumption) | ((with_reducible apply kp_seqT); with_reducible assumption) | ((with_reducible apply Dw.same); with_reducible assumption))); done)); exact rfl)
        | ((with_reducible apply R.ixL); (focus ((repeat' (first | with_reducible assumption | ((with_reducible apply SqL.of); with_reducible assumption) | ((with_reducible apply Same.seq); with_reducible assumption) | ((with_reducible apply Kp.seqL); with_reducible assumption) | ((with_reducible apply fresh_ne); with_reducible assumption) | ((with_reducible apply Dw.same); with_reducible assumption))); done)); exact rfl)
        | with_reducible assumption
        | with_reducible apply Bd.mulW
        | with_reducible apply Bd.mul
        | with_reducible apply Bd.add
        | with_reducible apply Bd.sub
        | ((with_reducible apply Bd.l8); exact eq_true (by decide))
        | ((with_reducible apply Bd.lit); exact eq_true (by decide))
        | with_reducible apply Bd.neg
        | with_reducible apply Bd.div
        | ((with_reducible apply Bd.om); omega)
        | ((with_reducible apply R.isLe); first | decide | omega)
        | with_reducible apply R.un
        | with_reducible apply R.u1
        | with_reducible apply R.tup
        | with_reducible apply R.lst
        | with_reducible apply R.call
        | with_reducible apply R.callB
        | with_reducible apply R.gtup
        | with_reducible apply R.gnil
        | with_reducible apply R.seq
        | with_reducible apply R.asg
        | with_reducible apply R.ret
        | with_reducible apply R.next
        | with_reducible apply R.drop
        | with_reducible apply R.par
        | with_reducible apply R.par2
        | with_reducible apply R.ifs
        | with_reducible apply R.tif
        | with_reducible apply R.test
        | with_reducible apply R.tb'
        | with_reducible apply R.isbl
        | with_reducible apply R.cmp
        | with_reducible apply R.t2i
        | with_reducible apply R.intp
        | with_reducible apply R.and
        | with_reducible apply R.or
        | with_reducible apply R.not
        | with_reducible apply R.andV
        | with_reducible apply R.orV
        | with_reducible apply R.notV
        | with_reducible apply R.chain
        | with_reducible apply R.tupL
        | with_reducible apply R.lstL
        | with_reducible apply R.cat
        | with_reducible apply R.isiT
        | with_reducible apply R.isiTup
        | with_reducible apply R.isiLst
        | with_reducible apply R.nwT
        | with_reducible apply R.nwL
        | ((with_reducible apply R.mt); intro HN tn sn nn ht)
        | ((with_reducible apply R.ml); intro HN tn sn nn ht)
        | ((with_reducible apply R.ne4); focus ((repeat' (first | with_reducible assumption | with_reducible apply hU | ((with_reducible apply SqT.of); with_reducible assumption) | ((with_reducible apply same_seqT); with_reducible assumption) | ((with_reducible apply kp_seqT); with_reducible assumption) | ((with_reducible apply Dw.same); with_reducible assumption))); done))
        | ((with_reducible apply R.ne3); focus ((repeat' (first | with_reducible assumption | with_reducible apply hU | ((with_reducible apply SqT.of); with_reducible assumption) | ((with_reducible apply same_seqT); with_reducible assumption) | ((with_reducible apply kp_seqT); with_reducible assumption) | ((with_reducible apply Dw.same); with_reducible assumption))); done))
        | ((with_reducible apply R.ne2); focus ((repeat' (first | with_reducible assumption | with_reducible apply hU | ((with_reducible apply SqT.of); with_reducible assumption) | ((with_reducible apply same_seqT); with_reducible assumption) | ((with_reducible apply kp_seqT); with_reducible assumption) | ((with_reducible apply Dw.same); with_reducible assumption))); done))
        | ((with_reducible apply R.eq4); focus ((repeat' (first | with_reducible assumption | with_reducible apply hU | ((with_reducible apply SqT.of); with_reducible assumption) | ((with_reducible apply same_seqT); with_reducible assumption) | ((with_reducible apply kp_seqT); with_reducible assumption) | ((with_reducible apply Dw.same); with_reducible assumption))); done))
        | ((with_reducible apply R.eq3); focus ((repeat' (first | with_reducible assumption | with_reducible apply hU | ((with_reducible apply SqT.of); with_reducible assumption) | ((with_reducible apply same_seqT); with_reducible assumption) | ((with_reducible apply kp_seqT); with_reducible assumption) | ((with_reducible apply Dw.same); with_reducible assumption))); done))
        | ((with_reducible apply R.eq2); focus ((repeat' (first | with_reducible assumption | with_reducible apply hU | ((with_reducible apply SqT.of); with_reducible assumption) | ((with_reducible apply same_seqT); with_reducible assumption) | ((with_reducible apply kp_seqT); with_reducible assumption) | ((with_reducible apply Dw.same); with_reducible assumption))); done))
        | with_reducible apply uLawNext
        | with_reducible apply uLawWide
        | with_reducible apply uLawChange
        | with_reducible apply uMultiply
        | with_reducible apply uDeterminant
        | with_reducible apply uApply
        | with_reducible apply uNegative
        | with_reducible apply uLawAt
        | with_reducible apply uLawMul
        | with_reducible apply uInverse
        | ((with_reducible apply R.nw); intro HN tn sn ht)
        | with_reducible apply iteT
        | with_reducible apply iteF
        | ((with_reducible apply SqT.of); with_reducible assumption)
        | ((with_reducible apply SqL.of); with_reducible assumption)
        | ((with_reducible apply same_seqT); with_reducible assumption)
        | ((with_reducible apply sameB); with_reducible assumption)
        | ((with_reducible apply same_at); with_reducible assumption)
        | ((with_reducible apply kp_seqT); with_reducible assumption)
        | ((with_reducible apply Same.seq); with_reducible assumption)
        | ((with_reducible apply Kp.seqL); with_reducible assumption)
        | ((with_reducible apply fresh_ne); with_reducible assumption)
        | ((with_reducible apply Dw.same); with_reducible assumption)
        | ((with_reducible apply R.isEq); exact eq_true (by first | decide | omega))
        | ((with_reducible apply R.isLt); first | decide | omega)
        | ((with_reducible apply R.isLtI); first | decide | omega)
        | ((with_reducible apply R.isLeI); first | decide | omega)
        | ((with_reducible apply R.cdiv); exact rfl)
        | ((with_reducible apply R.cpow); exact rfl)
        | with_reducible apply hU
        | ((with_reducible apply wayNF); first | exact rfl | exact ⟨rfl, rfl⟩ | exact ⟨rfl, rfl, rfl⟩ | exact ⟨rfl, rfl, rfl, rfl⟩)
        | with_reducible apply R.forE
        | with_reducible apply R.rng1
        | with_reducible apply R.rng2
        | with_reducible apply R.rg1
        | with_reducible apply R.rg2
        | with_reducible apply R.lcE
        | with_reducible apply R.itup
        | with_reducible apply R.ilst
        )
      intro r H3 ra rb d3 k3
      repeat' (first
        | with_reducible apply R.var
        | ((with_reducible apply R.isEq); exact rfl)
        | with_reducible apply R.op
        | with_reducible apply R.i2
        | with_reducible apply R.i0
        | with_reducible apply R.con
        | with_reducible apply R.cons
        | with_reducible apply R.nil
        | with_reducible apply R.gcons
        | with_reducible apply R.gname
        | ((with_reducible apply R.ixT); (focus ((repeat' (first | with_reducible assumption | with_reducible apply hU | ((with_reducible apply SqT.of); with_reducible assumption) | ((with_reducible apply same_seqT); with_reducible assumption) | ((with_reducible apply kp_seqT); with_reducible assumption) | ((with_reducible apply Dw.same); with_reducible assumption))); done)); exact rfl)
        | ((with_reducible apply R.ixL); (focus ((repeat' (first | with_reducible assumption | ((with_reducible apply SqL.of); with_reducible assumption) | ((with_reducible apply Same.seq); with_reducible assumption) | ((with_reducible apply Kp.seqL); with_reducible assumption) | ((with_reducible apply fresh_ne); with_reducible assumption) | ((with_reducible apply Dw.same); with_reducible assumption))); done)); exact rfl)
        | with_reducible assumption
        | with_reducible apply Bd.mulW
        | with_reducible apply Bd.mul
        | with_reducible apply Bd.add
        | with_reducible apply Bd.sub
        | ((with_reducible apply Bd.l8); exact eq_true (by decide))
        | ((with_reducible apply Bd.lit); exact eq_true (by decide))
        | with_reducible apply Bd.neg
        | with_reducible apply Bd.div
        | ((with_reducible apply Bd.om); omega)
        | ((with_reducible apply R.isLe); first | decide | omega)
        | with_reducible apply R.un
        | with_reducible apply R.u1
        | with_reducible apply R.tup
        | with_reducible apply R.lst
        | with_reducible apply R.call
        | with_reducible apply R.callB
        | with_reducible apply R.gtup
        | with_reducible apply R.gnil
        | with_reducible apply R.seq
        | with_reducible apply R.asg
        | with_reducible apply R.ret
        | with_reducible apply R.next
        | with_reducible apply R.drop
        | with_reducible apply R.par
        | with_reducible apply R.par2
        | with_reducible apply R.ifs
        | with_reducible apply R.tif
        | with_reducible apply R.test
        | with_reducible apply R.tb'
        | with_reducible apply R.isbl
        | with_reducible apply R.cmp
        | with_reducible apply R.t2i
        | with_reducible apply R.intp
        | with_reducible apply R.and
        | with_reducible apply R.or
        | with_reducible apply R.not
        | with_reducible apply R.andV
        | with_reducible apply R.orV
        | with_reducible apply R.notV
        | with_reducible apply R.chain
        | with_reducible apply R.tupL
        | with_reducible apply R.lstL
        | with_reducible apply R.cat
        | with_reducible apply R.isiT
        | with_reducible apply R.isiTup
        | with_reducible apply R.isiLst
        | with_reducible apply R.nwT
        | with_reducible apply R.nwL
        | ((with_reducible apply R.mt); intro HN tn sn nn ht)
        | ((with_reducible apply R.ml); intro HN tn sn nn ht)
        | ((with_reducible apply R.ne4); focus ((repeat' (first | with_reducible assumption | with_reducible apply hU | ((with_reducible apply SqT.of); with_reducible assumption) | ((with_reducible apply same_seqT); with_reducible assumption) | ((with_reducible apply kp_seqT); with_reducible assumption) | ((with_reducible apply Dw.same); with_reducible assumption))); done))
        | ((with_reducible apply R.ne3); focus ((repeat' (first | with_reducible assumption | with_reducible apply hU | ((with_reducible apply SqT.of); with_reducible assumption) | ((with_reducible apply same_seqT); with_reducible assumption) | ((with_reducible apply kp_seqT); with_reducible assumption) | ((with_reducible apply Dw.same); with_reducible assumption))); done))
        | ((with_reducible apply R.ne2); focus ((repeat' (first | with_reducible assumption | with_reducible apply hU | ((with_reducible apply SqT.of); with_reducible assumption) | ((with_reducible apply same_seqT); with_reducible assumption) | ((with_reducible apply kp_seqT); with_reducible assumption) | ((with_reducible apply Dw.same); with_reducible assumption))); done))
        | ((with_reducible apply R.eq4); focus ((repeat' (first | with_reducible assumption | with_reducible apply hU | ((with_reducible apply SqT.of); with_reducible assumption) | ((with_reducible apply same_seqT); with_reducible assumption) | ((with_reducible apply kp_seqT); with_reducible assumption) | ((with_reducible apply Dw.same); with_reducible assumption))); done))
        | ((with_reducible apply R.eq3); focus ((repeat' (first | with_reducible assumption | with_reducible apply hU | ((with_reducible apply SqT.of); with_reducible assumption) | ((with_reducible apply same_seqT); with_reducible assumption) | ((with_reducible apply kp_seqT); with_reducible assumption) | ((with_reducible apply Dw.same); with_reducible assumption))); done))
        | ((with_reducible apply R.eq2); focus ((repeat' (first | with_reducible assumption | with_reducible apply hU | ((with_reducible apply SqT.of); with_reducible assumption) | ((with_reducible apply same_seqT); with_reducible assumption) | ((with_reducible apply kp_seqT); with_reducible assumption) | ((with_reducible apply Dw.same); with_reducible assumption))); done))
        | with_reducible apply uLawNext
        | with_reducible apply uLawWide
        | with_reducible apply uLawChange
        | with_reducible apply uMultiply
        | with_reducible apply uDeterminant
        | with_reducible apply uApply
        | with_reducible apply uNegative
        | with_reducible apply uLawAt
        | with_reducible apply uLawMul
        | with_reducible apply uInverse
        | ((with_reducible apply R.nw); intro HN tn sn ht)
        | with_reducible apply iteT
        | with_reducible apply iteF
        | ((with_reducible apply SqT.of); with_reducible assumption)
        | ((with_reducible apply SqL.of); with_reducible assumption)
        | ((with_reducible apply same_seqT); with_reducible assumption)
        | ((with_reducible apply sameB); with_reducible assumption)
        | ((with_reducible apply same_at); with_reducible assumption)
        | ((with_reducible apply kp_seqT); with_reducible assumption)
        | ((with_reducible apply Same.seq); with_reducible assumption)
        | ((with_reducible apply Kp.seqL); with_reducible assumption)
        | ((with_reducible apply fresh_ne); with_reducible assumption)
        | ((with_reducible apply Dw.same); with_reducible assumption)
        | ((with_reducible apply R.isEq); exact eq_true (by first | decide | omega))
        | ((with_reducible apply R.isLt); first | decide | omega)
        | ((with_reducible apply R.isLtI); first | decide | omega)
        | ((with_reducible apply R.isLeI); first | decide | omega)
        | ((with_reducible apply R.cdiv); exact rfl)
        | ((with_reducible apply R.cpow); exact rfl)
        | with_reducible apply hU
        | ((with_reducible apply wayNF); first | exact rfl | exact ⟨rfl, rfl⟩ | exact ⟨rfl, rfl, rfl⟩ | exact ⟨rfl, rfl, rfl, rfl⟩)
        | with_reducible apply R.forE
        | with_reducible apply R.rng1
        | with_reducible apply R.rng2
        | with_reducible apply R.rg1
        | with_reducible apply R.rg2
        | with_reducible apply R.lcE
        | with_reducible apply R.itup
        | with_reducible apply R.ilst
        )
      have rb' : r < 1000000 := rb
      exact q _ _ (Bd.of (m := 500000) (by omega) (by decide)) d3 k3
    obtain ⟨m1, m2, m3, m4, rfl⟩ : ∃ m1 m2 m3 m4, xs = [m1, m2, m3, m4] := by
      match xs, hl with
      | [a, b, c, d], _ => exact ⟨a, b, c, d, rfl⟩
    have b1 := hx m1 (by simp)
    have b2 := hx m2 (by simp)
    have b3 := hx m3 (by simp)
    have b4 := hx m4 (by simp)
    clear hx hl
    replace hD : H2 D = some (.lst [.int m1, .int m2, .int m3, .int m4]) := hD
    repeat' (first
      | with_reducible apply R.var
      | ((with_reducible apply R.isEq); exact rfl)
      | with_reducible apply R.op
      | with_reducible apply R.i2
      | with_reducible apply R.i0
      | with_reducible apply R.con
      | with_reducible apply R.cons
      | with_reducible apply R.nil
      | with_reducible apply R.gcons
      | with_reducible apply R.gname
      | ((with_reducible apply R.ixT); (focus ((repeat' (first | with_reducible assumption | with_reducible apply hU | ((with_reducible apply SqT.of); with_reducible assumption) | ((with_reducible apply same_seqT); with_reducible assumption) | ((with_reducible apply kp_seqT); with_reducible assumption) | ((with_reducible apply Dw.same); with_reducible assumption))); done)); exact rfl)
      | ((with_reducible apply R.ixL); (focus ((repeat' (first | with_reducible assumption | ((with_reducible apply SqL.of); with_reducible assumption) | ((with_reducible apply Same.seq); with_reducible assumption) | ((with_reducible apply Kp.seqL); with_reducible assumption) | ((with_reducible apply fresh_ne); with_reducible assumption) | ((with_reducible apply Dw.same); with_reducible assumption))); done)); exact rfl)
      | with_reducible assumption
      | with_reducible apply Bd.mulW
      | with_reducible apply Bd.mul
      | with_reducible apply Bd.add
      | with_reducible apply Bd.sub
      | ((with_reducible apply Bd.l8); exact eq_true (by decide))
      | ((with_reducible apply Bd.lit); exact eq_true (by decide))
      | with_reducible apply Bd.neg
      | with_reducible apply Bd.div
      | ((with_reducible apply Bd.om); omega)
      | ((with_reducible apply R.isLe); first | decide | omega)
      | with_reducible apply R.un
      | with_reducible apply R.u1
      | with_reducible apply R.tup
      | with_reducible apply R.lst
      | with_reducible apply R.call
      | with_reducible apply R.callB
      | with_reducible apply R.gtup
      | with_reducible apply R.gnil
      | with_reducible apply R.seq
      | with_reducible apply R.asg
      | with_reducible apply R.ret
      | with_reducible apply R.next
      | with_reducible apply R.drop
      | with_reducible apply R.par
      | with_reducible apply R.par2
      | with_reducible apply R.ifs
      | with_reducible apply R.tif
      | with_reducible apply R.test
      | with_reducible apply R.tb'
      | with_reducible apply R.isbl
      | with_reducible apply R.cmp
      | with_reducible apply R.t2i
      | with_reducible apply R.intp
      | with_reducible apply R.and
      | with_reducible apply R.or
      | with_reducible apply R.not
      | with_reducible apply R.andV
      | with_reducible apply R.orV
      | with_reducible apply R.notV
      | with_reducible apply R.chain
      | with_reducible apply R.tupL
      | with_reducible apply R.lstL
      | with_reducible apply R.cat
      | with_reducible apply R.isiT
      | with_reducible apply R.isiTup
      | with_reducible apply R.isiLst
      | with_reducible apply R.nwT
      | with_reducible apply R.nwL
      | ((with_reducible apply R.mt); intro HN tn sn nn ht)
      | ((with_reducible apply R.ml); intro HN tn sn nn ht)
      | ((with_reducible apply R.ne4); focus ((repeat' (first | with_reducible assumption | with_reducible apply hU | ((with_reducible apply SqT.of); with_reducible assumption) | ((with_reducible apply same_seqT); with_reducible assumption) | ((with_reducible apply kp_seqT); with_reducible assumption) | ((with_reducible apply Dw.same); with_reducible assumption))); done))
      | ((with_reducible apply R.ne3); focus ((repeat' (first | with_reducible assumption | with_reducible apply hU | ((with_reducible apply SqT.of); with_reducible assumption) | ((with_reducible apply same_seqT); with_reducible assumption) | ((with_reducible apply kp_seqT); with_reducible assumption) | ((with_reducible apply Dw.same); with_reducible assumption))); done))
      | ((with_reducible apply R.ne2); focus ((repeat' (first | with_reducible assumption | with_reducible apply hU | ((with_reducible apply SqT.of); with_reducible assumption) | ((with_reducible apply same_seqT); with_reducible assumption) | ((with_reducible apply kp_seqT); with_reducible assumption) | ((with_reducible apply Dw.same); with_reducible assumption))); done))
      | ((with_reducible apply R.eq4); focus ((repeat' (first | with_reducible assumption | with_reducible apply hU | ((with_reducible apply SqT.of); with_reducible assumption) | ((with_reducible apply same_seqT); with_reducible assumption) | ((with_reducible apply kp_seqT); with_reducible assumption) | ((with_reducible apply Dw.same); with_reducible assumption))); done))
      | ((with_reducible apply R.eq3); focus ((repeat' (first | with_reducible assumption | with_reducible apply hU | ((with_reducible apply SqT.of); with_reducible assumption) | ((with_reducible apply same_seqT); with_reducible assumption) | ((with_reducible apply kp_seqT); with_reducible assumption) | ((with_reducible apply Dw.same); with_reducible assumption))); done))
      | ((with_reducible apply R.eq2); focus ((repeat' (first | with_reducible assumption | with_reducible apply hU | ((with_reducible apply SqT.of); with_reducible assumption) | ((with_reducible apply same_seqT); with_reducible assumption) | ((with_reducible apply kp_seqT); with_reducible assumption) | ((with_reducible apply Dw.same); with_reducible assumption))); done))
      | with_reducible apply uLawNext
      | with_reducible apply uLawWide
      | with_reducible apply uLawChange
      | with_reducible apply uMultiply
      | with_reducible apply uDeterminant
      | with_reducible apply uApply
      | with_reducible apply uNegative
      | with_reducible apply uLawAt
      | with_reducible apply uLawMul
      | with_reducible apply uInverse
      | ((with_reducible apply R.nw); intro HN tn sn ht)
      | with_reducible apply iteT
      | with_reducible apply iteF
      | ((with_reducible apply SqT.of); with_reducible assumption)
      | ((with_reducible apply SqL.of); with_reducible assumption)
      | ((with_reducible apply same_seqT); with_reducible assumption)
      | ((with_reducible apply sameB); with_reducible assumption)
      | ((with_reducible apply same_at); with_reducible assumption)
      | ((with_reducible apply kp_seqT); with_reducible assumption)
      | ((with_reducible apply Same.seq); with_reducible assumption)
      | ((with_reducible apply Kp.seqL); with_reducible assumption)
      | ((with_reducible apply fresh_ne); with_reducible assumption)
      | ((with_reducible apply Dw.same); with_reducible assumption)
      | ((with_reducible apply R.isEq); exact eq_true (by first | decide | omega))
      | ((with_reducible apply R.isLt); first | decide | omega)
      | ((with_reducible apply R.isLtI); first | decide | omega)
      | ((with_reducible apply R.isLeI); first | decide | omega)
      | ((with_reducible apply R.cdiv); exact rfl)
      | ((with_reducible apply R.cpow); exact rfl)
      | with_reducible apply hU
      | ((with_reducible apply wayNF); first | exact rfl | exact ⟨rfl, rfl⟩ | exact ⟨rfl, rfl, rfl⟩ | exact ⟨rfl, rfl, rfl, rfl⟩)
      | with_reducible apply R.forE
      | with_reducible apply R.rng1
      | with_reducible apply R.rng2
      | with_reducible apply R.rg1
      | with_reducible apply R.rg2
      | with_reducible apply R.lcE
      | with_reducible apply R.itup
      | with_reducible apply R.ilst
      )
    have dN := d2.same sn
    refine R.lcI (c := 1) (fun x => Bd 5 x) (by decide) dN (fun i H' Q' hi d k q => ?_) (fun H3 D2 ys hD2 hl hy d3 k3 nD2 Dp2 => ?_)
    · skip
      repeat' (first
        | with_reducible apply R.var
        | ((with_reducible apply R.isEq); exact rfl)
        | with_reducible apply R.op
        | with_reducible apply R.i2
        | with_reducible apply R.i0
        | with_reducible apply R.con
        | with_reducible apply R.cons
        | with_reducible apply R.nil
        | with_reducible apply R.gcons
        | with_reducible apply R.gname
        | ((with_reducible apply R.ixT); (focus ((repeat' (first | with_reducible assumption | with_reducible apply hU | ((with_reducible apply SqT.of); with_reducible assumption) | ((with_reducible apply same_seqT); with_reducible assumption) | ((with_reducible apply kp_seqT); with_reducible assumption) | ((with_reducible apply Dw.same); with_reducible assumption))); done)); exact rfl)
        | ((with_reducible apply R.ixL); (focus ((repeat' (first | with_reducible assumption | ((with_reducible apply SqL.of); with_reducible assumption) | ((with_reducible apply Same.seq); with_reducible assumption) | ((with_reducible apply Kp.seqL); with_reducible assumption) | ((with_reducible apply fresh_ne); with_reducible assumption) | ((with_reducible apply Dw.same); with_reducible assumption))); done)); exact rfl)
        | with_reducible assumption
        | with_reducible apply Bd.mulW
        | with_reducible apply Bd.mul
        | with_reducible apply Bd.add
        | with_reducible apply Bd.sub
        | ((with_reducible apply Bd.l8); exact eq_true (by decide))
        | ((with_reducible apply Bd.lit); exact eq_true (by decide))
        | with_reducible apply Bd.neg
        | with_reducible apply Bd.div
        | ((with_reducible apply Bd.om); omega)
        | ((with_reducible apply R.isLe); first | decide | omega)
        | with_reducible apply R.un
        | with_reducible apply R.u1
        | with_reducible apply R.tup
        | with_reducible apply R.lst
        | with_reducible apply R.call
        | with_reducible apply R.callB
        | with_reducible apply R.gtup
        | with_reducible apply R.gnil
        | with_reducible apply R.seq
        | with_reducible apply R.asg
        | with_reducible apply R.ret
        | with_reducible apply R.next
        | with_reducible apply R.drop
        | with_reducible apply R.par
        | with_reducible apply R.par2
        | with_reducible apply R.ifs
        | with_reducible apply R.tif
        | with_reducible apply R.test
        | with_reducible apply R.tb'
        | with_reducible apply R.isbl
        | with_reducible apply R.cmp
        | with_reducible apply R.t2i
        | with_reducible apply R.intp
        | with_reducible apply R.and
        | with_reducible apply R.or
        | with_reducible apply R.not
        | with_reducible apply R.andV
        | with_reducible apply R.orV
        | with_reducible apply R.notV
        | with_reducible apply R.chain
        | with_reducible apply R.tupL
        | with_reducible apply R.lstL
        | with_reducible apply R.cat
        | with_reducible apply R.isiT
        | with_reducible apply R.isiTup
        | with_reducible apply R.isiLst
        | with_reducible apply R.nwT
        | with_reducible apply R.nwL
        | ((with_reducible apply R.mt); intro HN tn sn nn ht)
        | ((with_reducible apply R.ml); intro HN tn sn nn ht)
        | ((with_reducible apply R.ne4); focus ((repeat' (first | with_reducible assumption | with_reducible apply hU | ((with_reducible apply SqT.of); with_reducible assumption) | ((with_reducible apply same_seqT); with_reducible assumption) | ((with_reducible apply kp_seqT); with_reducible assumption) | ((with_reducible apply Dw.same); with_reducible assumption))); done))
        | ((with_reducible apply R.ne3); focus ((repeat' (first | with_reducible assumption | with_reducible apply hU | ((with_reducible apply SqT.of); with_reducible assumption) | ((with_reducible apply same_seqT); with_reducible assumption) | ((with_reducible apply kp_seqT); with_reducible assumption) | ((with_reducible apply Dw.same); with_reducible assumption))); done))
        | ((with_reducible apply R.ne2); focus ((repeat' (first | with_reducible assumption | with_reducible apply hU | ((with_reducible apply SqT.of); with_reducible assumption) | ((with_reducible apply same_seqT); with_reducible assumption) | ((with_reducible apply kp_seqT); with_reducible assumption) | ((with_reducible apply Dw.same); with_reducible assumption))); done))
        | ((with_reducible apply R.eq4); focus ((repeat' (first | with_reducible assumption | with_reducible apply hU | ((with_reducible apply SqT.of); with_reducible assumption) | ((with_reducible apply same_seqT); with_reducible assumption) | ((with_reducible apply kp_seqT); with_reducible assumption) | ((with_reducible apply Dw.same); with_reducible assumption))); done))
        | ((with_reducible apply R.eq3); focus ((repeat' (first | with_reducible assumption | with_reducible apply hU | ((with_reducible apply SqT.of); with_reducible assumption) | ((with_reducible apply same_seqT); with_reducible assumption) | ((with_reducible apply kp_seqT); with_reducible assumption) | ((with_reducible apply Dw.same); with_reducible assumption))); done))
        | ((with_reducible apply R.eq2); focus ((repeat' (first | with_reducible assumption | with_reducible apply hU | ((with_reducible apply SqT.of); with_reducible assumption) | ((with_reducible apply same_seqT); with_reducible assumption) | ((with_reducible apply kp_seqT); with_reducible assumption) | ((with_reducible apply Dw.same); with_reducible assumption))); done))
        | with_reducible apply uLawNext
        | with_reducible apply uLawWide
        | with_reducible apply uLawChange
        | with_reducible apply uMultiply
        | with_reducible apply uDeterminant
        | with_reducible apply uApply
        | with_reducible apply uNegative
        | with_reducible apply uLawAt
        | with_reducible apply uLawMul
        | with_reducible apply uInverse
        | ((with_reducible apply R.nw); intro HN tn sn ht)
        | with_reducible apply iteT
        | with_reducible apply iteF
        | ((with_reducible apply SqT.of); with_reducible assumption)
        | ((with_reducible apply SqL.of); with_reducible assumption)
        | ((with_reducible apply same_seqT); with_reducible assumption)
        | ((with_reducible apply sameB); with_reducible assumption)
        | ((with_reducible apply same_at); with_reducible assumption)
        | ((with_reducible apply kp_seqT); with_reducible assumption)
        | ((with_reducible apply Same.seq); with_reducible assumption)
        | ((with_reducible apply Kp.seqL); with_reducible assumption)
        | ((with_reducible apply fresh_ne); with_reducible assumption)
        | ((with_reducible apply Dw.same); with_reducible assumption)
        | ((with_reducible apply R.isEq); exact eq_true (by first | decide | omega))
        | ((with_reducible apply R.isLt); first | decide | omega)
        | ((with_reducible apply R.isLtI); first | decide | omega)
        | ((with_reducible apply R.isLeI); first | decide | omega)
        | ((with_reducible apply R.cdiv); exact rfl)
        | ((with_reducible apply R.cpow); exact rfl)
        | with_reducible apply hU
        | ((with_reducible apply wayNF); first | exact rfl | exact ⟨rfl, rfl⟩ | exact ⟨rfl, rfl, rfl⟩ | exact ⟨rfl, rfl, rfl, rfl⟩)
        | with_reducible apply R.forE
        | with_reducible apply R.rng1
        | with_reducible apply R.rng2
        | with_reducible apply R.rg1
        | with_reducible apply R.rg2
        | with_reducible apply R.lcE
        | with_reducible apply R.itup
        | with_reducible apply R.ilst
        )
      refine ⟨rfl, ?_⟩
      repeat' (first
        | with_reducible apply R.var
        | ((with_reducible apply R.isEq); exact rfl)
        | with_reducible apply R.op
        | with_reducible apply R.i2
        | with_reducible apply R.i0
        | with_reducible apply R.con
        | with_reducible apply R.cons
        | with_reducible apply R.nil
        | with_reducible apply R.gcons
        | with_reducible apply R.gname
        | ((with_reducible apply R.ixT); (focus ((repeat' (first | with_reducible assumption | with_reducible apply hU | ((with_reducible apply SqT.of); with_reducible assumption) | ((with_reducible apply same_seqT); with_reducible assumption) | ((with_reducible apply kp_seqT); with_reducible assumption) | ((with_reducible apply Dw.same); with_reducible assumption))); done)); exact rfl)
        | ((with_reducible apply R.ixL); (focus ((repeat' (first | with_reducible assumption | ((with_reducible apply SqL.of); with_reducible assumption) | ((with_reducible apply Same.seq); with_reducible assumption) | ((with_reducible apply Kp.seqL); with_reducible assumption) | ((with_reducible apply fresh_ne); with_reducible assumption) | ((with_reducible apply Dw.same); with_reducible assumption))); done)); exact rfl)
        | with_reducible assumption
        | with_reducible apply Bd.mulW
        | with_reducible apply Bd.mul
        | with_reducible apply Bd.add
        | with_reducible apply Bd.sub
        | ((with_reducible apply Bd.l8); exact eq_true (by decide))
        | ((with_reducible apply Bd.lit); exact eq_true (by decide))
        | with_reducible apply Bd.neg
        | with_reducible apply Bd.div
        | ((with_reducible apply Bd.om); omega)
        | ((with_reducible apply R.isLe); first | decide | omega)
        | with_reducible apply R.un
        | with_reducible apply R.u1
        | with_reducible apply R.tup
        | with_reducible apply R.lst
        | with_reducible apply R.call
        | with_reducible apply R.callB
        | with_reducible apply R.gtup
        | with_reducible apply R.gnil
        | with_reducible apply R.seq
        | with_reducible apply R.asg
        | with_reducible apply R.ret
        | with_reducible apply R.next
        | with_reducible apply R.drop
        | with_reducible apply R.par
        | with_reducible apply R.par2
        | with_reducible apply R.ifs
        | with_reducible apply R.tif
        | with_reducible apply R.test
        | with_reducible apply R.tb'
        | with_reducible apply R.isbl
        | with_reducible apply R.cmp
        | with_reducible apply R.t2i
        | with_reducible apply R.intp
        | with_reducible apply R.and
        | with_reducible apply R.or
        | with_reducible apply R.not
        | with_reducible apply R.andV
        | with_reducible apply R.orV
        | with_reducible apply R.notV
        | with_reducible apply R.chain
        | with_reducible apply R.tupL
        | with_reducible apply R.lstL
        | with_reducible apply R.cat
        | with_reducible apply R.isiT
        | with_reducible apply R.isiTup
        | with_reducible apply R.isiLst
        | with_reducible apply R.nwT
        | with_reducible apply R.nwL
        | ((with_reducible apply R.mt); intro HN tn sn nn ht)
        | ((with_reducible apply R.ml); intro HN tn sn nn ht)
        | ((with_reducible apply R.ne4); focus ((repeat' (first | with_reducible assumption | with_reducible apply hU | ((with_reducible apply SqT.of); with_reducible assumption) | ((with_reducible apply same_seqT); with_reducible assumption) | ((with_reducible apply kp_seqT); with_reducible assumption) | ((with_reducible apply Dw.same); with_reducible assumption))); done))
        | ((with_reducible apply R.ne3); focus ((repeat' (first | with_reducible assumption | with_reducible apply hU | ((with_reducible apply SqT.of); with_reducible assumption) | ((with_reducible apply same_seqT); with_reducible assumption) | ((with_reducible apply kp_seqT); with_reducible assumption) | ((with_reducible apply Dw.same); with_reducible assumption))); done))
        | ((with_reducible apply R.ne2); focus ((repeat' (first | with_reducible assumption | with_reducible apply hU | ((with_reducible apply SqT.of); with_reducible assumption) | ((with_reducible apply same_seqT); with_reducible assumption) | ((with_reducible apply kp_seqT); with_reducible assumption) | ((with_reducible apply Dw.same); with_reducible assumption))); done))
        | ((with_reducible apply R.eq4); focus ((repeat' (first | with_reducible assumption | with_reducible apply hU | ((with_reducible apply SqT.of); with_reducible assumption) | ((with_reducible apply same_seqT); with_reducible assumption) | ((with_reducible apply kp_seqT); with_reducible assumption) | ((with_reducible apply Dw.same); with_reducible assumption))); done))
        | ((with_reducible apply R.eq3); focus ((repeat' (first | with_reducible assumption | with_reducible apply hU | ((with_reducible apply SqT.of); with_reducible assumption) | ((with_reducible apply same_seqT); with_reducible assumption) | ((with_reducible apply kp_seqT); with_reducible assumption) | ((with_reducible apply Dw.same); with_reducible assumption))); done))
        | ((with_reducible apply R.eq2); focus ((repeat' (first | with_reducible assumption | with_reducible apply hU | ((with_reducible apply SqT.of); with_reducible assumption) | ((with_reducible apply same_seqT); with_reducible assumption) | ((with_reducible apply kp_seqT); with_reducible assumption) | ((with_reducible apply Dw.same); with_reducible assumption))); done))
        | with_reducible apply uLawNext
        | with_reducible apply uLawWide
        | with_reducible apply uLawChange
        | with_reducible apply uMultiply
        | with_reducible apply uDeterminant
        | with_reducible apply uApply
        | with_reducible apply uNegative
        | with_reducible apply uLawAt
        | with_reducible apply uLawMul
        | with_reducible apply uInverse
        | ((with_reducible apply R.nw); intro HN tn sn ht)
        | with_reducible apply iteT
        | with_reducible apply iteF
        | ((with_reducible apply SqT.of); with_reducible assumption)
        | ((with_reducible apply SqL.of); with_reducible assumption)
        | ((with_reducible apply same_seqT); with_reducible assumption)
        | ((with_reducible apply sameB); with_reducible assumption)
        | ((with_reducible apply same_at); with_reducible assumption)
        | ((with_reducible apply kp_seqT); with_reducible assumption)
        | ((with_reducible apply Same.seq); with_reducible assumption)
        | ((with_reducible apply Kp.seqL); with_reducible assumption)
        | ((with_reducible apply fresh_ne); with_reducible assumption)
        | ((with_reducible apply Dw.same); with_reducible assumption)
        | ((with_reducible apply R.isEq); exact eq_true (by first | decide | omega))
        | ((with_reducible apply R.isLt); first | decide | omega)
        | ((with_reducible apply R.isLtI); first | decide | omega)
        | ((with_reducible apply R.isLeI); first | decide | omega)
        | ((with_reducible apply R.cdiv); exact rfl)
        | ((with_reducible apply R.cpow); exact rfl)
        | with_reducible apply hU
        | ((with_reducible apply wayNF); first | exact rfl | exact ⟨rfl, rfl⟩ | exact ⟨rfl, rfl, rfl⟩ | exact ⟨rfl, rfl, rfl, rfl⟩)
        | with_reducible apply R.forE
        | with_reducible apply R.rng1
        | with_reducible apply R.rng2
        | with_reducible apply R.rg1
        | with_reducible apply R.rg2
        | with_reducible apply R.lcE
        | with_reducible apply R.itup
        | with_reducible apply R.ilst
        )
      intro r H3 ra rb d3 k3
      repeat' (first
        | with_reducible apply R.var
        | ((with_reducible apply R.isEq); exact rfl)
        | with_reducible apply R.op
        | with_reducible apply R.i2
        | with_reducible apply R.i0
        | with_reducible apply R.con
        | with_reducible apply R.cons
        | with_reducible apply R.nil
        | with_reducible apply R.gcons
        | with_reducible apply R.gname
        | ((with_reducible apply R.ixT); (focus ((repeat' (first | with_reducible assumption | with_reducible apply hU | ((with_reducible apply SqT.of); with_reducible assumption) | ((with_reducible apply same_seqT); with_reducible assumption) | ((with_reducible apply kp_seqT); with_reducible assumption) | ((with_reducible apply Dw.same); with_reducible assumption))); done)); exact rfl)
        | ((with_reducible apply R.ixL); (focus ((repeat' (first | with_reducible assumption | ((with_reducible apply SqL.of); with_reducible assumption) | ((with_reducible apply Same.seq); with_reducible assumption) | ((with_reducible apply Kp.seqL); with_reducible assumption) | ((with_reducible apply fresh_ne); with_reducible assumption) | ((with_reducible apply Dw.same); with_reducible assumption))); done)); exact rfl)
        | with_reducible assumption
        | with_reducible apply Bd.mulW
        | with_reducible apply Bd.mul
        | with_reducible apply Bd.add
        | with_reducible apply Bd.sub
        | ((with_reducible apply Bd.l8); exact eq_true (by decide))
        | ((with_reducible apply Bd.lit); exact eq_true (by decide))
        | with_reducible apply Bd.neg
        | with_reducible apply Bd.div
        | ((with_reducible apply Bd.om); omega)
        | ((with_reducible apply R.isLe); first | decide | omega)
        | with_reducible apply R.un
        | with_reducible apply R.u1
        | with_reducible apply R.tup
        | with_reducible apply R.lst
        | with_reducible apply R.call
        | with_reducible apply R.callB
        | with_reducible apply R.gtup
        | with_reducible apply R.gnil
        | with_reducible apply R.seq
        | with_reducible apply R.asg
        | with_reducible apply R.ret
        | with_reducible apply R.next
        | with_reducible apply R.drop
        | with_reducible apply R.par
        | with_reducible apply R.par2
        | with_reducible apply R.ifs
        | with_reducible apply R.tif
        | with_reducible apply R.test
        | with_reducible apply R.tb'
        | with_reducible apply R.isbl
        | with_reducible apply R.cmp
        | with_reducible apply R.t2i
        | with_reducible apply R.intp
        | with_reducible apply R.and
        | with_reducible apply R.or
        | with_reducible apply R.not
        | with_reducible apply R.andV
        | with_reducible apply R.orV
        | with_reducible apply R.notV
        | with_reducible apply R.chain
        | with_reducible apply R.tupL
        | with_reducible apply R.lstL
        | with_reducible apply R.cat
        | with_reducible apply R.isiT
        | with_reducible apply R.isiTup
        | with_reducible apply R.isiLst
        | with_reducible apply R.nwT
        | with_reducible apply R.nwL
        | ((with_reducible apply R.mt); intro HN tn sn nn ht)
        | ((with_reducible apply R.ml); intro HN tn sn nn ht)
        | ((with_reducible apply R.ne4); focus ((repeat' (first | with_reducible assumption | with_reducible apply hU | ((with_reducible apply SqT.of); with_reducible assumption) | ((with_reducible apply same_seqT); with_reducible assumption) | ((with_reducible apply kp_seqT); with_reducible assumption) | ((with_reducible apply Dw.same); with_reducible assumption))); done))
        | ((with_reducible apply R.ne3); focus ((repeat' (first | with_reducible assumption | with_reducible apply hU | ((with_reducible apply SqT.of); with_reducible assumption) | ((with_reducible apply same_seqT); with_reducible assumption) | ((with_reducible apply kp_seqT); with_reducible assumption) | ((with_reducible apply Dw.same); with_reducible assumption))); done))
        | ((with_reducible apply R.ne2); focus ((repeat' (first | with_reducible assumption | with_reducible apply hU | ((with_reducible apply SqT.of); with_reducible assumption) | ((with_reducible apply same_seqT); with_reducible assumption) | ((with_reducible apply kp_seqT); with_reducible assumption) | ((with_reducible apply Dw.same); with_reducible assumption))); done))
        | ((with_reducible apply R.eq4); focus ((repeat' (first | with_reducible assumption | with_reducible apply hU | ((with_reducible apply SqT.of); with_reducible assumption) | ((with_reducible apply same_seqT); with_reducible assumption) | ((with_reducible apply kp_seqT); with_reducible assumption) | ((with_reducible apply Dw.same); with_reducible assumption))); done))
        | ((with_reducible apply R.eq3); focus ((repeat' (first | with_reducible assumption | with_reducible apply hU | ((with_reducible apply SqT.of); with_reducible assumption) | ((with_reducible apply same_seqT); with_reducible assumption) | ((with_reducible apply kp_seqT); with_reducible assumption) | ((with_reducible apply Dw.same); with_reducible assumption))); done))
        | ((with_reducible apply R.eq2); focus ((repeat' (first | with_reducible assumption | with_reducible apply hU | ((with_reducible apply SqT.of); with_reducible assumption) | ((with_reducible apply same_seqT); with_reducible assumption) | ((with_reducible apply kp_seqT); with_reducible assumption) | ((with_reducible apply Dw.same); with_reducible assumption))); done))
        | with_reducible apply uLawNext
        | with_reducible apply uLawWide
        | with_reducible apply uLawChange
        | with_reducible apply uMultiply
        | with_reducible apply uDeterminant
        | with_reducible apply uApply
        | with_reducible apply uNegative
        | with_reducible apply uLawAt
        | with_reducible apply uLawMul
        | with_reducible apply uInverse
        | ((with_reducible apply R.nw); intro HN tn sn ht)
        | with_reducible apply iteT
        | with_reducible apply iteF
        | ((with_reducible apply SqT.of); with_reducible assumption)
        | ((with_reducible apply SqL.of); with_reducible assumption)
        | ((with_reducible apply same_seqT); with_reducible assumption)
        | ((with_reducible apply sameB); with_reducible assumption)
        | ((with_reducible apply same_at); with_reducible assumption)
        | ((with_reducible apply kp_seqT); with_reducible assumption)
        | ((with_reducible apply Same.seq); with_reducible assumption)
        | ((with_reducible apply Kp.seqL); with_reducible assumption)
        | ((with_reducible apply fresh_ne); with_reducible assumption)
        | ((with_reducible apply Dw.same); with_reducible assumption)
        | ((with_reducible apply R.isEq); exact eq_true (by first | decide | omega))
        | ((with_reducible apply R.isLt); first | decide | omega)
        | ((with_reducible apply R.isLtI); first | decide | omega)
        | ((with_reducible apply R.isLeI); first | decide | omega)
        | ((with_reducible apply R.cdiv); exact rfl)
        | ((with_reducible apply R.cpow); exact rfl)
        | with_reducible apply hU
        | ((with_reducible apply wayNF); first | exact rfl | exact ⟨rfl, rfl⟩ | exact ⟨rfl, rfl, rfl⟩ | exact ⟨rfl, rfl, rfl, rfl⟩)
        | with_reducible apply R.forE
        | with_reducible apply R.rng1
        | with_reducible apply R.rng2
        | with_reducible apply R.rg1
        | with_reducible apply R.rg2
        | with_reducible apply R.lcE
        | with_reducible apply R.itup
        | with_reducible apply R.ilst
        )
      exact q _ _ (Bd.of (m := 15) (by omega) (by decide)) d3 k3
    obtain ⟨n1, n2, n3, n4, rfl⟩ : ∃ m1 m2 m3 m4, ys = [m1, m2, m3, m4] := by
      match ys, hl with
      | [a, b, c, d], _ => exact ⟨a, b, c, d, rfl⟩
    have c1 := hy n1 (by simp)
    have c2 := hy n2 (by simp)
    have c3 := hy n3 (by simp)
    have c4 := hy n4 (by simp)
    clear hy hl
    replace hD2 : H3 D2 = some (.lst [.int n1, .int n2, .int n3, .int n4]) := hD2
    repeat' (first
      | with_reducible apply R.var
      | ((with_reducible apply R.isEq); exact rfl)
      | with_reducible apply R.op
      | with_reducible apply R.i2
      | with_reducible apply R.i0
      | with_reducible apply R.con
      | with_reducible apply R.cons
      | with_reducible apply R.nil
      | with_reducible apply R.gcons
      | with_reducible apply R.gname
      | ((with_reducible apply R.ixT); (focus ((repeat' (first | with_reducible assumption | with_reducible apply hU | ((with_reducible apply SqT.of); with_reducible assumption) | ((with_reducible apply same_seqT); with_reducible assumption) | ((with_reducible apply kp_seqT); with_reducible assumption) | ((with_reducible apply Dw.same); with_reducible assumption))); done)); exact rfl)
      | ((with_reducible apply R.ixL); (focus ((repeat' (first | with_reducible assumption | ((with_reducible apply SqL.of); with_reducible assumption) | ((with_reducible apply Same.seq); with_reducible assumption) | ((with_reducible apply Kp.seqL); with_reducible assumption) | ((with_reducible apply fresh_ne); with_reducible assumption) | ((with_reducible apply Dw.same); with_reducible assumption))); done)); exact rfl)
      | with_reducible assumption
      | with_reducible apply Bd.mulW
      | with_reducible apply Bd.mul
      | with_reducible apply Bd.add
      | with_reducible apply Bd.sub
      | ((with_reducible apply Bd.l8); exact eq_true (by decide))
      | ((with_reducible apply Bd.lit); exact eq_true (by decide))
      | with_reducible apply Bd.neg
      | with_reducible apply Bd.div
      | ((with_reducible apply Bd.om); omega)
      | ((with_reducible apply R.isLe); first | decide | omega)
      | with_reducible apply R.un
      | with_reducible apply R.u1
      | with_reducible apply R.tup
      | with_reducible apply R.lst
      | with_reducible apply R.call
      | with_reducible apply R.callB
      | with_reducible apply R.gtup
      | with_reducible apply R.gnil
      | with_reducible apply R.seq
      | with_reducible apply R.asg
      | with_reducible apply R.ret
      | with_reducible apply R.next
      | with_reducible apply R.drop
      | with_reducible apply R.par
      | with_reducible apply R.par2
      | with_reducible apply R.ifs
      | with_reducible apply R.tif
      | with_reducible apply R.test
      | with_reducible apply R.tb'
      | with_reducible apply R.isbl
      | with_reducible apply R.cmp
      | with_reducible apply R.t2i
      | with_reducible apply R.intp
      | with_reducible apply R.and
      | with_reducible apply R.or
      | with_reducible apply R.not
      | with_reducible apply R.andV
      | with_reducible apply R.orV
      | with_reducible apply R.notV
      | with_reducible apply R.chain
      | with_reducible apply R.tupL
      | with_reducible apply R.lstL
      | with_reducible apply R.cat
      | with_reducible apply R.isiT
      | with_reducible apply R.isiTup
      | with_reducible apply R.isiLst
      | with_reducible apply R.nwT
      | with_reducible apply R.nwL
      | ((with_reducible apply R.mt); intro HN tn sn nn ht)
      | ((with_reducible apply R.ml); intro HN tn sn nn ht)
      | ((with_reducible apply R.ne4); focus ((repeat' (first | with_reducible assumption | with_reducible apply hU | ((with_reducible apply SqT.of); with_reducible assumption) | ((with_reducible apply same_seqT); with_reducible assumption) | ((with_reducible apply kp_seqT); with_reducible assumption) | ((with_reducible apply Dw.same); with_reducible assumption))); done))
      | ((with_reducible apply R.ne3); focus ((repeat' (first | with_reducible assumption | with_reducible apply hU | ((with_reducible apply SqT.of); with_reducible assumption) | ((with_reducible apply same_seqT); with_reducible assumption) | ((with_reducible apply kp_seqT); with_reducible assumption) | ((with_reducible apply Dw.same); with_reducible assumption))); done))
      | ((with_reducible apply R.ne2); focus ((repeat' (first | with_reducible assumption | with_reducible apply hU | ((with_reducible apply SqT.of); with_reducible assumption) | ((with_reducible apply same_seqT); with_reducible assumption) | ((with_reducible apply kp_seqT); with_reducible assumption) | ((with_reducible apply Dw.same); with_reducible assumption))); done))
      | ((with_reducible apply R.eq4); focus ((repeat' (first | with_reducible assumption | with_reducible apply hU | ((with_reducible apply SqT.of); with_reducible assumption) | ((with_reducible apply same_seqT); with_reducible assumption) | ((with_reducible apply kp_seqT); with_reducible assumption) | ((with_reducible apply Dw.same); with_reducible assumption))); done))
      | ((with_reducible apply R.eq3); focus ((repeat' (first | with_reducible assumption | with_reducible apply hU | ((with_reducible apply SqT.of); with_reducible assumption) | ((with_reducible apply same_seqT); with_reducible assumption) | ((with_reducible apply kp_seqT); with_reducible assumption) | ((with_reducible apply Dw.same); with_reducible assumption))); done))
      | ((with_reducible apply R.eq2); focus ((repeat' (first | with_reducible assumption | with_reducible apply hU | ((with_reducible apply SqT.of); with_reducible assumption) | ((with_reducible apply same_seqT); with_reducible assumption) | ((with_reducible apply kp_seqT); with_reducible assumption) | ((with_reducible apply Dw.same); with_reducible assumption))); done))
      | with_reducible apply uLawNext
      | with_reducible apply uLawWide
      | with_reducible apply uLawChange
      | with_reducible apply uMultiply
      | with_reducible apply uDeterminant
      | with_reducible apply uApply
      | with_reducible apply uNegative
      | with_reducible apply uLawAt
      | with_reducible apply uLawMul
      | with_reducible apply uInverse
      | ((with_reducible apply R.nw); intro HN tn sn ht)
      | with_reducible apply iteT
      | with_reducible apply iteF
      | ((with_reducible apply SqT.of); with_reducible assumption)
      | ((with_reducible apply SqL.of); with_reducible assumption)
      | ((with_reducible apply same_seqT); with_reducible assumption)
      | ((with_reducible apply sameB); with_reducible assumption)
      | ((with_reducible apply same_at); with_reducible assumption)
      | ((with_reducible apply kp_seqT); with_reducible assumption)
      | ((with_reducible apply Same.seq); with_reducible assumption)
      | ((with_reducible apply Kp.seqL); with_reducible assumption)
      | ((with_reducible apply fresh_ne); with_reducible assumption)
      | ((with_reducible apply Dw.same); with_reducible assumption)
      | ((with_reducible apply R.isEq); exact eq_true (by first | decide | omega))
      | ((with_reducible apply R.isLt); first | decide | omega)
      | ((with_reducible apply R.isLtI); first | decide | omega)
      | ((with_reducible apply R.isLeI); first | decide | omega)
      | ((with_reducible apply R.cdiv); exact rfl)
      | ((with_reducible apply R.cpow); exact rfl)
      | with_reducible apply hU
      | ((with_reducible apply wayNF); first | exact rfl | exact ⟨rfl, rfl⟩ | exact ⟨rfl, rfl, rfl⟩ | exact ⟨rfl, rfl, rfl, rfl⟩)
      | with_reducible apply R.forE
      | with_reducible apply R.rng1
      | with_reducible apply R.rng2
      | with_reducible apply R.rg1
      | with_reducible apply R.rg2
      | with_reducible apply R.lcE
      | with_reducible apply R.itup
      | with_reducible apply R.ilst
      )
    intro x H4 xa xb d4 k4
    repeat' (first
      | with_reducible apply R.var
      | ((with_reducible apply R.isEq); exact rfl)
      | with_reducible apply R.op
      | with_reducible apply R.i2
      | with_reducible apply R.i0
      | with_reducible apply R.con
      | with_reducible apply R.cons
      | with_reducible apply R.nil
      | with_reducible apply R.gcons
      | with_reducible apply R.gname
      | ((with_reducible apply R.ixT); (focus ((repeat' (first | with_reducible assumption | with_reducible apply hU | ((with_reducible apply SqT.of); with_reducible assumption) | ((with_reducible apply same_seqT); with_reducible assumption) | ((with_reducible apply kp_seqT); with_reducible assumption) | ((with_reducible apply Dw.same); with_reducible assumption))); done)); exact rfl)
      | ((with_reducible apply R.ixL); (focus ((repeat' (first | with_reducible assumption | ((with_reducible apply SqL.of); with_reducible assumption) | ((with_reducible apply Same.seq); with_reducible assumption) | ((with_reducible apply Kp.seqL); with_reducible assumption) | ((with_reducible apply fresh_ne); with_reducible assumption) | ((with_reducible apply Dw.same); with_reducible assumption))); done)); exact rfl)
      | with_reducible assumption
      | with_reducible apply Bd.mulW
      | with_reducible apply Bd.mul
      | with_reducible apply Bd.add
      | with_reducible apply Bd.sub
      | ((with_reducible apply Bd.l8); exact eq_true (by decide))
      | ((with_reducible apply Bd.lit); exact eq_true (by decide))
      | with_reducible apply Bd.neg
      | with_reducible apply Bd.div
      | ((with_reducible apply Bd.om); omega)
      | ((with_reducible apply R.isLe); first | decide | omega)
      | with_reducible apply R.un
      | with_reducible apply R.u1
      | with_reducible apply R.tup
      | with_reducible apply R.lst
      | with_reducible apply R.call
      | with_reducible apply R.callB
      | with_reducible apply R.gtup
      | with_reducible apply R.gnil
      | with_reducible apply R.seq
      | with_reducible apply R.asg
      | with_reducible apply R.ret
      | with_reducible apply R.next
      | with_reducible apply R.drop
      | with_reducible apply R.par
      | with_reducible apply R.par2
      | with_reducible apply R.ifs
      | with_reducible apply R.tif
      | with_reducible apply R.test
      | with_reducible apply R.tb'
      | with_reducible apply R.isbl
      | with_reducible apply R.cmp
      | with_reducible apply R.t2i
      | with_reducible apply R.intp
      | with_reducible apply R.and
      | with_reducible apply R.or
      | with_reducible apply R.not
      | with_reducible apply R.andV
      | with_reducible apply R.orV
      | with_reducible apply R.notV
      | with_reducible apply R.chain
      | with_reducible apply R.tupL
      | with_reducible apply R.lstL
      | with_reducible apply R.cat
      | with_reducible apply R.isiT
      | with_reducible apply R.isiTup
      | with_reducible apply R.isiLst
      | with_reducible apply R.nwT
      | with_reducible apply R.nwL
      | ((with_reducible apply R.mt); intro HN tn sn nn ht)
      | ((with_reducible apply R.ml); intro HN tn sn nn ht)
      | ((with_reducible apply R.ne4); focus ((repeat' (first | with_reducible assumption | with_reducible apply hU | ((with_reducible apply SqT.of); with_reducible assumption) | ((with_reducible apply same_seqT); with_reducible assumption) | ((with_reducible apply kp_seqT); with_reducible assumption) | ((with_reducible apply Dw.same); with_reducible assumption))); done))
      | ((with_reducible apply R.ne3); focus ((repeat' (first | with_reducible assumption | with_reducible apply hU | ((with_reducible apply SqT.of); with_reducible assumption) | ((with_reducible apply same_seqT); with_reducible assumption) | ((with_reducible apply kp_seqT); with_reducible assumption) | ((with_reducible apply Dw.same); with_reducible assumption))); done))
      | ((with_reducible apply R.ne2); focus ((repeat' (first | with_reducible assumption | with_reducible apply hU | ((with_reducible apply SqT.of); with_reducible assumption) | ((with_reducible apply same_seqT); with_reducible assumption) | ((with_reducible apply kp_seqT); with_reducible assumption) | ((with_reducible apply Dw.same); with_reducible assumption))); done))
      | ((with_reducible apply R.eq4); focus ((repeat' (first | with_reducible assumption | with_reducible apply hU | ((with_reducible apply SqT.of); with_reducible assumption) | ((with_reducible apply same_seqT); with_reducible assumption) | ((with_reducible apply kp_seqT); with_reducible assumption) | ((with_reducible apply Dw.same); with_reducible assumption))); done))
      | ((with_reducible apply R.eq3); focus ((repeat' (first | with_reducible assumption | with_reducible apply hU | ((with_reducible apply SqT.of); with_reducible assumption) | ((with_reducible apply same_seqT); with_reducible assumption) | ((with_reducible apply kp_seqT); with_reducible assumption) | ((with_reducible apply Dw.same); with_reducible assumption))); done))
      | ((with_reducible apply R.eq2); focus ((repeat' (first | with_reducible assumption | with_reducible apply hU | ((with_reducible apply SqT.of); with_reducible assumption) | ((with_reducible apply same_seqT); with_reducible assumption) | ((with_reducible apply kp_seqT); with_reducible assumption) | ((with_reducible apply Dw.same); with_reducible assumption))); done))
      | with_reducible apply uLawNext
      | with_reducible apply uLawWide
      | with_reducible apply uLawChange
      | with_reducible apply uMultiply
      | with_reducible apply uDeterminant
      | with_reducible apply uApply
      | with_reducible apply uNegative
      | with_reducible apply uLawAt
      | with_reducible apply uLawMul
      | with_reducible apply uInverse
      | ((with_reducible apply R.nw); intro HN tn sn ht)
      | with_reducible apply iteT
      | with_reducible apply iteF
      | ((with_reducible apply SqT.of); with_reducible assumption)
      | ((with_reducible apply SqL.of); with_reducible assumption)
      | ((with_reducible apply same_seqT); with_reducible assumption)
      | ((with_reducible apply sameB); with_reducible assumption)
      | ((with_reducible apply same_at); with_reducible assumption)
      | ((with_reducible apply kp_seqT); with_reducible assumption)
      | ((with_reducible apply Same.seq); with_reducible assumption)
      | ((with_reducible apply Kp.seqL); with_reducible assumption)
      | ((with_reducible apply fresh_ne); with_reducible assumption)
      | ((with_reducible apply Dw.same); with_reducible assumption)
      | ((with_reducible apply R.isEq); exact eq_true (by first | decide | omega))
      | ((with_reducible apply R.isLt); first | decide | omega)
      | ((with_reducible apply R.isLtI); first | decide | omega)
      | ((with_reducible apply R.isLeI); first | decide | omega)
      | ((with_reducible apply R.cdiv); exact rfl)
      | ((with_reducible apply R.cpow); exact rfl)
      | with_reducible apply hU
      | ((with_reducible apply wayNF); first | exact rfl | exact ⟨rfl, rfl⟩ | exact ⟨rfl, rfl, rfl⟩ | exact ⟨rfl, rfl, rfl, rfl⟩)
      | with_reducible apply R.forE
      | with_reducible apply R.rng1
      | with_reducible apply R.rng2
      | with_reducible apply R.rg1
      | with_reducible apply R.rg2
      | with_reducible apply R.lcE
      | with_reducible apply R.itup
      | with_reducible apply R.ilst
      )
    intro y H5 ya yb d5 k5
    repeat' (first
      | with_reducible apply R.var
      | ((with_reducible apply R.isEq); exact rfl)
      | with_reducible apply R.op
      | with_reducible apply R.i2
      | with_reducible apply R.i0
      | with_reducible apply R.con
      | with_reducible apply R.cons
      | with_reducible apply R.nil
      | with_reducible apply R.gcons
      | with_reducible apply R.gname
      | ((with_reducible apply R.ixT); (focus ((repeat' (first | with_reducible assumption | with_reducible apply hU | ((with_reducible apply SqT.of); with_reducible assumption) | ((with_reducible apply same_seqT); with_reducible assumption) | ((with_reducible apply kp_seqT); with_reducible assumption) | ((with_reducible apply Dw.same); with_reducible assumption))); done)); exact rfl)
      | ((with_reducible apply R.ixL); (focus ((repeat' (first | with_reducible assumption | ((with_reducible apply SqL.of); with_reducible assumption) | ((with_reducible apply Same.seq); with_reducible assumption) | ((with_reducible apply Kp.seqL); with_reducible assumption) | ((with_reducible apply fresh_ne); with_reducible assumption) | ((with_reducible apply Dw.same); with_reducible assumption))); done)); exact rfl)
      | with_reducible assumption
      | with_reducible apply Bd.mulW
      | with_reducible apply Bd.mul
      | with_reducible apply Bd.add
      | with_reducible apply Bd.sub
      | ((with_reducible apply Bd.l8); exact eq_true (by decide))
      | ((with_reducible apply Bd.lit); exact eq_true (by decide))
      | with_reducible apply Bd.neg
      | with_reducible apply Bd.div
      | ((with_reducible apply Bd.om); omega)
      | ((with_reducible apply R.isLe); first | decide | omega)
      | with_reducible apply R.un
      | with_reducible apply R.u1
      | with_reducible apply R.tup
      | with_reducible apply R.lst
      | with_reducible apply R.call
      | with_reducible apply R.callB
      | with_reducible apply R.gtup
      | with_reducible apply R.gnil
      | with_reducible apply R.seq
      | with_reducible apply R.asg
      | with_reducible apply R.ret
      | with_reducible apply R.next
      | with_reducible apply R.drop
      | with_reducible apply R.par
      | with_reducible apply R.par2
      | with_reducible apply R.ifs
      | with_reducible apply R.tif
      | with_reducible apply R.test
      | with_reducible apply R.tb'
      | with_reducible apply R.isbl
      | with_reducible apply R.cmp
      | with_reducible apply R.t2i
      | with_reducible apply R.intp
      | with_reducible apply R.and
      | with_reducible apply R.or
      | with_reducible apply R.not
      | with_reducible apply R.andV
      | with_reducible apply R.orV
      | with_reducible apply R.notV
      | with_reducible apply R.chain
      | with_reducible apply R.tupL
      | with_reducible apply R.lstL
      | with_reducible apply R.cat
      | with_reducible apply R.isiT
      | with_reducible apply R.isiTup
      | with_reducible apply R.isiLst
      | with_reducible apply R.nwT
      | with_reducible apply R.nwL
      | ((with_reducible apply R.mt); intro HN tn sn nn ht)
      | ((with_reducible apply R.ml); intro HN tn sn nn ht)
      | ((with_reducible apply R.ne4); focus ((repeat' (first | with_reducible assumption | with_reducible apply hU | ((with_reducible apply SqT.of); with_reducible assumption) | ((with_reducible apply same_seqT); with_reducible assumption) | ((with_reducible apply kp_seqT); with_reducible assumption) | ((with_reducible apply Dw.same); with_reducible assumption))); done))
      | ((with_reducible apply R.ne3); focus ((repeat' (first | with_reducible assumption | with_reducible apply hU | ((with_reducible apply SqT.of); with_reducible assumption) | ((with_reducible apply same_seqT); with_reducible assumption) | ((with_reducible apply kp_seqT); with_reducible assumption) | ((with_reducible apply Dw.same); with_reducible assumption))); done))
      | ((with_reducible apply R.ne2); focus ((repeat' (first | with_reducible assumption | with_reducible apply hU | ((with_reducible apply SqT.of); with_reducible assumption) | ((with_reducible apply same_seqT); with_reducible assumption) | ((with_reducible apply kp_seqT); with_reducible assumption) | ((with_reducible apply Dw.same); with_reducible assumption))); done))
      | ((with_reducible apply R.eq4); focus ((repeat' (first | with_reducible assumption | with_reducible apply hU | ((with_reducible apply SqT.of); with_reducible assumption) | ((with_reducible apply same_seqT); with_reducible assumption) | ((with_reducible apply kp_seqT); with_reducible assumption) | ((with_reducible apply Dw.same); with_reducible assumption))); done))
      | ((with_reducible apply R.eq3); focus ((repeat' (first | with_reducible assumption | with_reducible apply hU | ((with_reducible apply SqT.of); with_reducible assumption) | ((with_reducible apply same_seqT); with_reducible assumption) | ((with_reducible apply kp_seqT); with_reducible assumption) | ((with_reducible apply Dw.same); with_reducible assumption))); done))
      | ((with_reducible apply R.eq2); focus ((repeat' (first | with_reducible assumption | with_reducible apply hU | ((with_reducible apply SqT.of); with_reducible assumption) | ((with_reducible apply same_seqT); with_reducible assumption) | ((with_reducible apply kp_seqT); with_reducible assumption) | ((with_reducible apply Dw.same); with_reducible assumption))); done))
      | with_reducible apply uLawNext
      | with_reducible apply uLawWide
      | with_reducible apply uLawChange
      | with_reducible apply uMultiply
      | with_reducible apply uDeterminant
      | with_reducible apply uApply
      | with_reducible apply uNegative
      | with_reducible apply uLawAt
      | with_reducible apply uLawMul
      | with_reducible apply uInverse
      | ((with_reducible apply R.nw); intro HN tn sn ht)
      | with_reducible apply iteT
      | with_reducible apply iteF
      | ((with_reducible apply SqT.of); with_reducible assumption)
      | ((with_reducible apply SqL.of); with_reducible assumption)
      | ((with_reducible apply same_seqT); with_reducible assumption)
      | ((with_reducible apply sameB); with_reducible assumption)
      | ((with_reducible apply same_at); with_reducible assumption)
      | ((with_reducible apply kp_seqT); with_reducible assumption)
      | ((with_reducible apply Same.seq); with_reducible assumption)
      | ((with_reducible apply Kp.seqL); with_reducible assumption)
      | ((with_reducible apply fresh_ne); with_reducible assumption)
      | ((with_reducible apply Dw.same); with_reducible assumption)
      | ((with_reducible apply R.isEq); exact eq_true (by first | decide | omega))
      | ((with_reducible apply R.isLt); first | decide | omega)
      | ((with_reducible apply R.isLtI); first | decide | omega)
      | ((with_reducible apply R.isLeI); first | decide | omega)
      | ((with_reducible apply R.cdiv); exact rfl)
      | ((with_reducible apply R.cpow); exact rfl)
      | with_reducible apply hU
      | ((with_reducible apply wayNF); first | exact rfl | exact ⟨rfl, rfl⟩ | exact ⟨rfl, rfl, rfl⟩ | exact ⟨rfl, rfl, rfl, rfl⟩)
      | with_reducible apply R.forE
      | with_reducible apply R.rng1
      | with_reducible apply R.rng2
      | with_reducible apply R.rg1
      | with_reducible apply R.rg2
      | with_reducible apply R.lcE
      | with_reducible apply R.itup
      | with_reducible apply R.ilst
      )
    refine R.refs (S := SqT K _) (xs := [.int m1, .int m2, .int m3, .int m4]) (by (repeat' (first   | with_reducible apply R.var   | ((with_reducible apply R.isEq); exact rfl)   | with_reducible apply R.op   | with_reducible apply R.i2   | with_reducible apply R.i0   | with_reducible apply R.con   | with_reducible apply R.cons   | with_reducible apply R.nil   | with_reducible apply R.gcons   | with_reducible apply R.gname   | ((with_reducible apply R.ixT); (focus ((repeat' (first | with_reducible assumption | with_reducible apply hU | ((with_reducible apply SqT.of); with_reducible assumption) | ((with_reducible apply same_seqT); with_reducible assumption) | ((with_reducible apply kp_seqT); with_reducible assumption) | ((with_reducible apply Dw.same); with_reducible assumption))); done)); exact rfl)   | ((with_reducible apply R.ixL); (focus ((repeat' (first | with_reducible assumption | ((with_reducible apply SqL.of); with_reducible assumption) | ((with_reducible apply Same.seq); with_reducible assumption) | ((with_reducible apply Kp.seqL); with_reducible assumption) | ((with_reducible apply fresh_ne); with_reducible assumption) | ((with_reducible apply Dw.same); with_reducible assumption))); done)); exact rfl)   | with_reducible assumption   | with_reducible apply Bd.mulW   | with_reducible apply Bd.mul   | with_reducible apply Bd.add   | with_reducible apply Bd.sub   | ((with_reducible apply Bd.l8); exact eq_true (by decide))   | ((with_reducible apply Bd.lit); exact eq_true (by decide))   | with_reducible apply Bd.neg   | with_reducible apply Bd.div   | ((with_reducible apply Bd.om); omega)   | ((with_reducible apply R.isLe); first | decide | omega)   | with_reducible apply R.un   | with_reducible apply R.u1   | with_reducible apply R.tup   | with_reducible apply R.lst   | with_reducible apply R.call   | with_reducible apply R.callB   | with_reducible apply R.gtup   | with_reducible apply R.gnil   | with_reducible apply R.seq   | with_reducible apply R.asg   | with_reducible apply R.ret   | with_reducible apply R.next   | with_reducible apply R.drop   | with_reducible apply R.par   | with_reducible apply R.par2   | with_reducible apply R.ifs   | with_reducible apply R.tif   | with_reducible apply R.test   | with_reducible apply R.tb'   | with_reducible apply R.isbl   | with_reducible apply R.cmp   | with_reducible apply R.t2i   | with_reducible apply R.intp   | with_reducible apply R.and   | with_reducible apply R.or   | with_reducible apply R.not   | with_reducible apply R.andV   | with_reducible apply R.orV   | with_reducible apply R.notV   | with_reducible apply R.chain   | with_reducible apply R.tupL   | with_reducible apply R.lstL   | with_reducible apply R.cat   | with_reducible apply R.isiT   | with_reducible apply R.isiTup   | with_reducible apply R.isiLst   | with_reducible apply R.nwT   | with_reducible apply R.nwL   | ((with_reducible apply R.mt); intro HN tn sn nn ht)   | ((with_reducible apply R.ml); intro HN tn sn nn ht)   | ((with_reducible apply R.ne4); focus ((repeat' (first | with_reducible assumption | with_reducible apply hU | ((with_reducible apply SqT.of); with_reducible assumption) | ((with_reducible apply same_seqT); with_reducible assumption) | ((with_reducible apply kp_seqT); with_reducible assumption) | ((with_reducible apply Dw.same); with_reducible assumption))); done))   | ((with_reducible apply R.ne3); focus ((repeat' (first | with_reducible assumption | with_reducible apply hU | ((with_reducible apply SqT.of); with_reducible assumption) | ((with_reducible apply same_seqT); with_reducible assumption) | ((with_reducible apply kp_seqT); with_reducible assumption) | ((with_reducible apply Dw.same); with_reducible assumption))); done))   | ((with_reducible apply R.ne2); focus ((repeat' (first | with_reducible assumption | with_reducible apply hU | ((with_reducible apply SqT.of); with_reducible assumption) | ((with_reducible apply same_seqT); with_reducible assumption) | ((with_reducible apply kp_seqT); with_reducible assumption) | ((with_reducible apply Dw.same); with_reducible assumption))); done))   | ((with_reducible apply R.eq4); focus ((repeat' (first | with_reducible assumption | with_reducible apply hU | ((with_reducible apply SqT.of); with_reducible assumption) | ((with_reducible apply same_seqT); with_reducible assumption) | ((with_reducible apply kp_seqT); with_reducible assumption) | ((with_reducible apply Dw.same); with_reducible assumption))); done))   | ((with_reducible apply R.eq3); focus ((repeat' (first | with_reducible assumption | with_reducible apply hU | ((with_reducible apply SqT.of); with_reducible assumption) | ((with_reducible apply same_seqT); with_reducible assumption) | ((with_reducible apply kp_seqT); with_reducible assumption) | ((with_reducible apply Dw.same); with_reducible assumption))); done))   | ((with_reducible apply R.eq2); focus ((repeat' (first | with_reducible assumption | with_reducible apply hU | ((with_reducible apply SqT.of); with_reducible assumption) | ((with_reducible apply same_seqT); with_reducible assumption) | ((with_reducible apply kp_seqT); with_reducible assumption) | ((with_reducible apply Dw.same); with_reducible assumption))); done))   | with_reducible apply uLawNext   | with_reducible apply uLawWide   | with_reducible apply uLawChange   | with_reducible apply uMultiply   | with_reducible apply uDeterminant   | with_reducible apply uApply   | with_reducible apply uNegative   | with_reducible apply uLawAt   | with_reducible apply uLawMul   | with_reducible apply uInverse   | ((with_reducible apply R.nw); intro HN tn sn ht)   | with_reducible apply iteT   | with_reducible apply iteF   | ((with_reducible apply SqT.of); with_reducible assumption)   | ((with_reducible apply SqL.of); with_reducible assumption)   | ((with_reducible apply same_seqT); with_reducible assumption)   | ((with_reducible apply sameB); with_reducible assumption)   | ((with_reducible apply same_at); with_reducible assumption)   | ((with_reducible apply kp_seqT); with_reducible assumption)   | ((with_reducible apply Same.seq); with_reducible assumption)   | ((with_reducible apply Kp.seqL); with_reducible assumption)   | ((with_reducible apply fresh_ne); with_reducible assumption)   | ((with_reducible apply Dw.same); with_reducible assumption)   | ((with_reducible apply R.isEq); exact eq_true (by first | decide | omega))   | ((with_reducible apply R.isLt); first | decide | omega)   | ((with_reducible apply R.isLtI); first | decide | omega)   | ((with_reducible apply R.isLeI); first | decide | omega)   | ((with_reducible apply R.cdiv); exact rfl)   | ((with_reducible apply R.cpow); exact rfl)   | with_reducible apply hU   | ((with_reducible apply wayNF); first | exact rfl | exact ⟨rfl, rfl⟩ | exact ⟨rfl, rfl, rfl⟩ | exact ⟨rfl, rfl, rfl, rfl⟩)   | with_reducible apply R.forE   | with_reducible apply R.rng1   | with_reducible apply R.rng2   | with_reducible apply R.rg1   | with_reducible apply R.rg2   | with_reducible apply R.lcE   | with_reducible apply R.itup   | with_reducible apply R.ilst   ))) ?_
    refine R.lcT (ns := [m1, m2, m3, m4]) (fun x => -x) (by show 4 ≤ 900; decide) (show SqT K _ _ [.int m1, .int m2, .int m3, .int m4] by (repeat' (first   | with_reducible apply R.var   | ((with_reducible apply R.isEq); exact rfl)   | with_reducible apply R.op   | with_reducible apply R.i2   | with_reducible apply R.i0   | with_reducible apply R.con   | with_reducible apply R.cons   | with_reducible apply R.nil   | with_reducible apply R.gcons   | with_reducible apply R.gname   | ((with_reducible apply R.ixT); (focus ((repeat' (first | with_reducible assumption | with_reducible apply hU | ((with_reducible apply SqT.of); with_reducible assumption) | ((with_reducible apply same_seqT); with_reducible assumption) | ((with_reducible apply kp_seqT); with_reducible assumption) | ((with_reducible apply Dw.same); with_reducible assumption))); done)); exact rfl)   | ((with_reducible apply R.ixL); (focus ((repeat' (first | with_reducible assumption | ((with_reducible apply SqL.of); with_reducible assumption) | ((with_reducible apply Same.seq); with_reducible assumption) | ((with_reducible apply Kp.seqL); with_reducible assumption) | ((with_reducible apply fresh_ne); with_reducible assumption) | ((with_reducible apply Dw.same); with_reducible assumption))); done)); exact rfl)   | with_reducible assumption   | with_reducible apply Bd.mulW   | with_reducible apply Bd.mul   | with_reducible apply Bd.add   | with_reducible apply Bd.sub   | ((with_reducible apply Bd.l8); exact eq_true (by decide))   | ((with_reducible apply Bd.lit); exact eq_true (by decide))   | with_reducible apply Bd.neg   | with_reducible apply Bd.div   | ((with_reducible apply Bd.om); omega)   | ((with_reducible apply R.isLe); first | decide | omega)   | with_reducible apply R.un   | with_reducible apply R.u1   | with_reducible apply R.tup   | with_reducible apply R.lst   | with_reducible apply R.call   | with_reducible apply R.callB   | with_reducible apply R.gtup   | with_reducible apply R.gnil   | with_reducible apply R.seq   | with_reducible apply R.asg   | with_reducible apply R.ret   | with_reducible apply R.next   | with_reducible apply R.drop   | with_reducible apply R.par   | with_reducible apply R.par2   | with_reducible apply R.ifs   | with_reducible apply R.tif   | with_reducible apply R.test   | with_reducible apply R.tb'   | with_reducible apply R.isbl   | with_reducible apply R.cmp   | with_reducible apply R.t2i   | with_reducible apply R.intp   | with_reducible apply R.and   | with_reducible apply R.or   | with_reducible apply R.not   | with_reducible apply R.andV   | with_reducible apply R.orV   | with_reducible apply R.notV   | with_reducible apply R.chain   | with_reducible apply R.tupL   | with_reducible apply R.lstL   | with_reducible apply R.cat   | with_reducible apply R.isiT   | with_reducible apply R.isiTup   | with_reducible apply R.isiLst   | with_reducible apply R.nwT   | with_reducible apply R.nwL   | ((with_reducible apply R.mt); intro HN tn sn nn ht)   | ((with_reducible apply R.ml); intro HN tn sn nn ht)   | ((with_reducible apply R.ne4); focus ((repeat' (first | with_reducible assumption | with_reducible apply hU | ((with_reducible apply SqT.of); with_reducible assumption) | ((with_reducible apply same_seqT); with_reducible assumption) | ((with_reducible apply kp_seqT); with_reducible assumption) | ((with_reducible apply Dw.same); with_reducible assumption))); done))   | ((with_reducible apply R.ne3); focus ((repeat' (first | with_reducible assumption | with_reducible apply hU | ((with_reducible apply SqT.of); with_reducible assumption) | ((with_reducible apply same_seqT); with_reducible assumption) | ((with_reducible apply kp_seqT); with_reducible assumption) | ((with_reducible apply Dw.same); with_reducible assumption))); done))   | ((with_reducible apply R.ne2); focus ((repeat' (first | with_reducible assumption | with_reducible apply hU | ((with_reducible apply SqT.of); with_reducible assumption) | ((with_reducible apply same_seqT); with_reducible assumption) | ((with_reducible apply kp_seqT); with_reducible assumption) | ((with_reducible apply Dw.same); with_reducible assumption))); done))   | ((with_reducible apply R.eq4); focus ((repeat' (first | with_reducible assumption | with_reducible apply hU | ((with_reducible apply SqT.of); with_reducible assumption) | ((with_reducible apply same_seqT); with_reducible assumption) | ((with_reducible apply kp_seqT); with_reducible assumption) | ((with_reducible apply Dw.same); with_reducible assumption))); done))   | ((with_reducible apply R.eq3); focus ((repeat' (first | with_reducible assumption | with_reducible apply hU | ((with_reducible apply SqT.of); with_reducible assumption) | ((with_reducible apply same_seqT); with_reducible assumption) | ((with_reducible apply kp_seqT); with_reducible assumption) | ((with_reducible apply Dw.same); with_reducible assumption))); done))   | ((with_reducible apply R.eq2); focus ((repeat' (first | with_reducible assumption | with_reducible apply hU | ((with_reducible apply SqT.of); with_reducible assumption) | ((with_reducible apply same_seqT); with_reducible assumption) | ((with_reducible apply kp_seqT); with_reducible assumption) | ((with_reducible apply Dw.same); with_reducible assumption))); done))   | with_reducible apply uLawNext   | with_reducible apply uLawWide   | with_reducible apply uLawChange   | with_reducible apply uMultiply   | with_reducible apply uDeterminant   | with_reducible apply uApply   | with_reducible apply uNegative   | with_reducible apply uLawAt   | with_reducible apply uLawMul   | with_reducible apply uInverse   | ((with_reducible apply R.nw); intro HN tn sn ht)   | with_reducible apply iteT   | with_reducible apply iteF   | ((with_reducible apply SqT.of); with_reducible assumption)   | ((with_reducible apply SqL.of); with_reducible assumption)   | ((with_reducible apply same_seqT); with_reducible assumption)   | ((with_reducible apply sameB); with_reducible assumption)   | ((with_reducible apply same_at); with_reducible assumption)   | ((with_reducible apply kp_seqT); with_reducible assumption)   | ((with_reducible apply Same.seq); with_reducible assumption)   | ((with_reducible apply Kp.seqL); with_reducible assumption)   | ((with_reducible apply fresh_ne); with_reducible assumption)   | ((with_reducible apply Dw.same); with_reducible assumption)   | ((with_reducible apply R.isEq); exact eq_true (by first | decide | omega))   | ((with_reducible apply R.isLt); first | decide | omega)   | ((with_reducible apply R.isLtI); first | decide | omega)   | ((with_reducible apply R.isLeI); first | decide | omega)   | ((with_reducible apply R.cdiv); exact rfl)   | ((with_reducible apply R.cpow); exact rfl)   | with_reducible apply hU   | ((with_reducible apply wayNF); first | exact rfl | exact ⟨rfl, rfl⟩ | exact ⟨rfl, rfl, rfl⟩ | exact ⟨rfl, rfl, rfl, rfl⟩)   | with_reducible apply R.forE   | with_reducible apply R.rng1   | with_reducible apply R.rng2   | with_reducible apply R.rg1   | with_reducible apply R.rg2   | with_reducible apply R.lcE   | with_reducible apply R.itup   | with_reducible apply R.ilst   ))) (fun n H' Q' _ sm q => ?_) (fun H6 D3 hD3 s6 nD3 => ?_)
    · skip
      repeat' (first
        | with_reducible apply R.var
        | ((with_reducible apply R.isEq); exact rfl)
        | with_reducible apply R.op
        | with_reducible apply R.i2
        | with_reducible apply R.i0
        | with_reducible apply R.con
        | with_reducible apply R.cons
        | with_reducible apply R.nil
        | with_reducible apply R.gcons
        | with_reducible apply R.gname
        | ((with_reducible apply R.ixT); (focus ((repeat' (first | with_reducible assumption | with_reducible apply hU | ((with_reducible apply SqT.of); with_reducible assumption) | ((with_reducible apply same_seqT); with_reducible assumption) | ((with_reducible apply kp_seqT); with_reducible assumption) | ((with_reducible apply Dw.same); with_reducible assumption))); done)); exact rfl)
        | ((with_reducible apply R.ixL); (focus ((repeat' (first | with_reducible assumption | ((with_reducible apply SqL.of); with_reducible assumption) | ((with_reducible apply Same.seq); with_reducible assumption) | ((with_reducible apply Kp.seqL); with_reducible assumption) | ((with_reducible apply fresh_ne); with_reducible assumption) | ((with_reducible apply Dw.same); with_reducible assumption))); done)); exact rfl)
        | with_reducible assumption
        | with_reducible apply Bd.mulW
        | with_reducible apply Bd.mul
        | with_reducible apply Bd.add
        | with_reducible apply Bd.sub
        | ((with_reducible apply Bd.l8); exact eq_true (by decide))
        | ((with_reducible apply Bd.lit); exact eq_true (by decide))
        | with_reducible apply Bd.neg
        | with_reducible apply Bd.div
        | ((with_reducible apply Bd.om); omega)
        | ((with_reducible apply R.isLe); first | decide | omega)
        | with_reducible apply R.un
        | with_reducible apply R.u1
        | with_reducible apply R.tup
        | with_reducible apply R.lst
        | with_reducible apply R.call
        | with_reducible apply R.callB
        | with_reducible apply R.gtup
        | with_reducible apply R.gnil
        | with_reducible apply R.seq
        | with_reducible apply R.asg
        | with_reducible apply R.ret
        | with_reducible apply R.next
        | with_reducible apply R.drop
        | with_reducible apply R.par
        | with_reducible apply R.par2
        | with_reducible apply R.ifs
        | with_reducible apply R.tif
        | with_reducible apply R.test
        | with_reducible apply R.tb'
        | with_reducible apply R.isbl
        | with_reducible apply R.cmp
        | with_reducible apply R.t2i
        | with_reducible apply R.intp
        | with_reducible apply R.and
        | with_reducible apply R.or
        | with_reducible apply R.not
        | with_reducible apply R.andV
        | with_reducible apply R.orV
        | with_reducible apply R.notV
        | with_reducible apply R.chain
        | with_reducible apply R.tupL
        | with_reducible apply R.lstL
        | with_reducible apply R.cat
        | with_reducible apply R.isiT
        | with_reducible apply R.isiTup
        | with_reducible apply R.isiLst
        | with_reducible apply R.nwT
        | with_reducible apply R.nwL
        | ((with_reducible apply R.mt); intro HN tn sn nn ht)
        | ((with_reducible apply R.ml); intro HN tn sn nn ht)
        | ((with_reducible apply R.ne4); focus ((repeat' (first | with_reducible assumption | with_reducible apply hU | ((with_reducible apply SqT.of); with_reducible assumption) | ((with_reducible apply same_seqT); with_reducible assumption) | ((with_reducible apply kp_seqT); with_reducible assumption) | ((with_reducible apply Dw.same); with_reducible assumption))); done))
        | ((with_reducible apply R.ne3); focus ((repeat' (first | with_reducible assumption | with_reducible apply hU | ((with_reducible apply SqT.of); with_reducible assumption) | ((with_reducible apply same_seqT); with_reducible assumption) | ((with_reducible apply kp_seqT); with_reducible assumption) | ((with_reducible apply Dw.same); with_reducible assumption))); done))
        | ((with_reducible apply R.ne2); focus ((repeat' (first | with_reducible assumption | with_reducible apply hU | ((with_reducible apply SqT.of); with_reducible assumption) | ((with_reducible apply same_seqT); with_reducible assumption) | ((with_reducible apply kp_seqT); with_reducible assumption) | ((with_reducible apply Dw.same); with_reducible assumption))); done))
        | ((with_reducible apply R.eq4); focus ((repeat' (first | with_reducible assumption | with_reducible apply hU | ((with_reducible apply SqT.of); with_reducible assumption) | ((with_reducible apply same_seqT); with_reducible assumption) | ((with_reducible apply kp_seqT); with_reducible assumption) | ((with_reducible apply Dw.same); with_reducible assumption))); done))
        | ((with_reducible apply R.eq3); focus ((repeat' (first | with_reducible assumption | with_reducible apply hU | ((with_reducible apply SqT.of); with_reducible assumption) | ((with_reducible apply same_seqT); with_reducible assumption) | ((with_reducible apply kp_seqT); with_reducible assumption) | ((with_reducible apply Dw.same); with_reducible assumption))); done))
        | ((with_reducible apply R.eq2); focus ((repeat' (first | with_reducible assumption | with_reducible apply hU | ((with_reducible apply SqT.of); with_reducible assumption) | ((with_reducible apply same_seqT); with_reducible assumption) | ((with_reducible apply kp_seqT); with_reducible assumption) | ((with_reducible apply Dw.same); with_reducible assumption))); done))
        | with_reducible apply uLawNext
        | with_reducible apply uLawWide
        | with_reducible apply uLawChange
        | with_reducible apply uMultiply
        | with_reducible apply uDeterminant
        | with_reducible apply uApply
        | with_reducible apply uNegative
        | with_reducible apply uLawAt
        | with_reducible apply uLawMul
        | with_reducible apply uInverse
        | ((with_reducible apply R.nw); intro HN tn sn ht)
        | with_reducible apply iteT
        | with_reducible apply iteF
        | ((with_reducible apply SqT.of); with_reducible assumption)
        | ((with_reducible apply SqL.of); with_reducible assumption)
        | ((with_reducible apply same_seqT); with_reducible assumption)
        | ((with_reducible apply sameB); with_reducible assumption)
        | ((with_reducible apply same_at); with_reducible assumption)
        | ((with_reducible apply kp_seqT); with_reducible assumption)
        | ((with_reducible apply Same.seq); with_reducible assumption)
        | ((with_reducible apply Kp.seqL); with_reducible assumption)
        | ((with_reducible apply fresh_ne); with_reducible assumption)
        | ((with_reducible apply Dw.same); with_reducible assumption)
        | ((with_reducible apply R.isEq); exact eq_true (by first | decide | omega))
        | ((with_reducible apply R.isLt); first | decide | omega)
        | ((with_reducible apply R.isLtI); first | decide | omega)
        | ((with_reducible apply R.isLeI); first | decide | omega)
        | ((with_reducible apply R.cdiv); exact rfl)
        | ((with_reducible apply R.cpow); exact rfl)
        | with_reducible apply hU
        | ((with_reducible apply wayNF); first | exact rfl | exact ⟨rfl, rfl⟩ | exact ⟨rfl, rfl, rfl⟩ | exact ⟨rfl, rfl, rfl, rfl⟩)
        | with_reducible apply R.forE
        | with_reducible apply R.rng1
        | with_reducible apply R.rng2
        | with_reducible apply R.rg1
        | with_reducible apply R.rg2
        | with_reducible apply R.lcE
        | with_reducible apply R.itup
        | with_reducible apply R.ilst
        )
      refine ⟨rfl, ?_⟩
      repeat' (first
        | with_reducible apply R.var
        | ((with_reducible apply R.isEq); exact rfl)
        | with_reducible apply R.op
        | with_reducible apply R.i2
        | with_reducible apply R.i0
        | with_reducible apply R.con
        | with_reducible apply R.cons
        | with_reducible apply R.nil
        | with_reducible apply R.gcons
        | with_reducible apply R.gname
        | ((with_reducible apply R.ixT); (focus ((repeat' (first | with_reducible assumption | with_reducible apply hU | ((with_reducible apply SqT.of); with_reducible assumption) | ((with_reducible apply same_seqT); with_reducible assumption) | ((with_reducible apply kp_seqT); with_reducible assumption) | ((with_reducible apply Dw.same); with_reducible assumption))); done)); exact rfl)
        | ((with_reducible apply R.ixL); (focus ((repeat' (first | with_reducible assumption | ((with_reducible apply SqL.of); with_reducible assumption) | ((with_reducible apply Same.seq); with_reducible assumption) | ((with_reducible apply Kp.seqL); with_reducible assumption) | ((with_reducible apply fresh_ne); with_reducible assumption) | ((with_reducible apply Dw.same); with_reducible assumption))); done)); exact rfl)
        | with_reducible assumption
        | with_reducible apply Bd.mulW
        | with_reducible apply Bd.mul
        | with_reducible apply Bd.add
        | with_reducible apply Bd.sub
        | ((with_reducible apply Bd.l8); exact eq_true (by decide))
        | ((with_reducible apply Bd.lit); exact eq_true (by decide))
        | with_reducible apply Bd.neg
        | with_reducible apply Bd.div
        | ((with_reducible apply Bd.om); omega)
        | ((with_reducible apply R.isLe); first | decide | omega)
        | with_reducible apply R.un
        | with_reducible apply R.u1
        | with_reducible apply R.tup
        | with_reducible apply R.lst
        | with_reducible apply R.call
        | with_reducible apply R.callB
        | with_reducible apply R.gtup
        | with_reducible apply R.gnil
        | with_reducible apply R.seq
        | with_reducible apply R.asg
        | with_reducible apply R.ret
        | with_reducible apply R.next
        | with_reducible apply R.drop
        | with_reducible apply R.par
        | with_reducible apply R.par2
        | with_reducible apply R.ifs
        | with_reducible apply R.tif
        | with_reducible apply R.test
        | with_reducible apply R.tb'
        | with_reducible apply R.isbl
        | with_reducible apply R.cmp
        | with_reducible apply R.t2i
        | with_reducible apply R.intp
        | with_reducible apply R.and
        | with_reducible apply R.or
        | with_reducible apply R.not
        | with_reducible apply R.andV
        | with_reducible apply R.orV
        | with_reducible apply R.notV
        | with_reducible apply R.chain
        | with_reducible apply R.tupL
        | with_reducible apply R.lstL
        | with_reducible apply R.cat
        | with_reducible apply R.isiT
        | with_reducible apply R.isiTup
        | with_reducible apply R.isiLst
        | with_reducible apply R.nwT
        | with_reducible apply R.nwL
        | ((with_reducible apply R.mt); intro HN tn sn nn ht)
        | ((with_reducible apply R.ml); intro HN tn sn nn ht)
        | ((with_reducible apply R.ne4); focus ((repeat' (first | with_reducible assumption | with_reducible apply hU | ((with_reducible apply SqT.of); with_reducible assumption) | ((with_reducible apply same_seqT); with_reducible assumption) | ((with_reducible apply kp_seqT); with_reducible assumption) | ((with_reducible apply Dw.same); with_reducible assumption))); done))
        | ((with_reducible apply R.ne3); focus ((repeat' (first | with_reducible assumption | with_reducible apply hU | ((with_reducible apply SqT.of); with_reducible assumption) | ((with_reducible apply same_seqT); with_reducible assumption) | ((with_reducible apply kp_seqT); with_reducible assumption) | ((with_reducible apply Dw.same); with_reducible assumption))); done))
        | ((with_reducible apply R.ne2); focus ((repeat' (first | with_reducible assumption | with_reducible apply hU | ((with_reducible apply SqT.of); with_reducible assumption) | ((with_reducible apply same_seqT); with_reducible assumption) | ((with_reducible apply kp_seqT); with_reducible assumption) | ((with_reducible apply Dw.same); with_reducible assumption))); done))
        | ((with_reducible apply R.eq4); focus ((repeat' (first | with_reducible assumption | with_reducible apply hU | ((with_reducible apply SqT.of); with_reducible assumption) | ((with_reducible apply same_seqT); with_reducible assumption) | ((with_reducible apply kp_seqT); with_reducible assumption) | ((with_reducible apply Dw.same); with_reducible assumption))); done))
        | ((with_reducible apply R.eq3); focus ((repeat' (first | with_reducible assumption | with_reducible apply hU | ((with_reducible apply SqT.of); with_reducible assumption) | ((with_reducible apply same_seqT); with_reducible assumption) | ((with_reducible apply kp_seqT); with_reducible assumption) | ((with_reducible apply Dw.same); with_reducible assumption))); done))
        | ((with_reducible apply R.eq2); focus ((repeat' (first | with_reducible assumption | with_reducible apply hU | ((with_reducible apply SqT.of); with_reducible assumption) | ((with_reducible apply same_seqT); with_reducible assumption) | ((with_reducible apply kp_seqT); with_reducible assumption) | ((with_reducible apply Dw.same); with_reducible assumption))); done))
        | with_reducible apply uLawNext
        | with_reducible apply uLawWide
        | with_reducible apply uLawChange
        | with_reducible apply uMultiply
        | with_reducible apply uDeterminant
        | with_reducible apply uApply
        | with_reducible apply uNegative
        | with_reducible apply uLawAt
        | with_reducible apply uLawMul
        | with_reducible apply uInverse
        | ((with_reducible apply R.nw); intro HN tn sn ht)
        | with_reducible apply iteT
        | with_reducible apply iteF
        | ((with_reducible apply SqT.of); with_reducible assumption)
        | ((with_reducible apply SqL.of); with_reducible assumption)
        | ((with_reducible apply same_seqT); with_reducible assumption)
        | ((with_reducible apply sameB); with_reducible assumption)
        | ((with_reducible apply same_at); with_reducible assumption)
        | ((with_reducible apply kp_seqT); with_reducible assumption)
        | ((with_reducible apply Same.seq); with_reducible assumption)
        | ((with_reducible apply Kp.seqL); with_reducible assumption)
        | ((with_reducible apply fresh_ne); with_reducible assumption)
        | ((with_reducible apply Dw.same); with_reducible assumption)
        | ((with_reducible apply R.isEq); exact eq_true (by first | decide | omega))
        | ((with_reducible apply R.isLt); first | decide | omega)
        | ((with_reducible apply R.isLtI); first | decide | omega)
        | ((with_reducible apply R.isLeI); first | decide | omega)
        | ((with_reducible apply R.cdiv); exact rfl)
        | ((with_reducible apply R.cpow); exact rfl)
        | with_reducible apply hU
        | ((with_reducible apply wayNF); first | exact rfl | exact ⟨rfl, rfl⟩ | exact ⟨rfl, rfl, rfl⟩ | exact ⟨rfl, rfl, rfl, rfl⟩)
        | with_reducible apply R.forE
        | with_reducible apply R.rng1
        | with_reducible apply R.rng2
        | with_reducible apply R.rg1
        | with_reducible apply R.rg2
        | with_reducible apply R.lcE
        | with_reducible apply R.itup
        | with_reducible apply R.ilst
        )
    replace hD3 : H6 D3 = some (.lst [.int (-m1), .int (-m2), .int (-m3), .int (-m4)]) := hD3
    repeat' (first
      | with_reducible apply R.var
      | ((with_reducible apply R.isEq); exact rfl)
      | with_reducible apply R.op
      | with_reducible apply R.i2
      | with_reducible apply R.i0
      | with_reducible apply R.con
      | with_reducible apply R.cons
      | with_reducible apply R.nil
      | with_reducible apply R.gcons
      | with_reducible apply R.gname
      | ((with_reducible apply R.ixT); (focus ((repeat' (first | with_reducible assumption | with_reducible apply hU | ((with_reducible apply SqT.of); with_reducible assumption) | ((with_reducible apply same_seqT); with_reducible assumption) | ((with_reducible apply kp_seqT); with_reducible assumption) | ((with_reducible apply Dw.same); with_reducible assumption))); done)); exact rfl)
      | ((with_reducible apply R.ixL); (focus ((repeat' (first | with_reducible assumption | ((with_reducible apply SqL.of); with_reducible assumption) | ((with_reducible apply Same.seq); with_reducible assumption) | ((with_reducible apply Kp.seqL); with_reducible assumption) | ((with_reducible apply fresh_ne); with_reducible assumption) | ((with_reducible apply Dw.same); with_reducible assumption))); done)); exact rfl)
      | with_reducible assumption
      | with_reducible apply Bd.mulW
      | with_reducible apply Bd.mul
      | with_reducible apply Bd.add
      | with_reducible apply Bd.sub
      | ((with_reducible apply Bd.l8); exact eq_true (by decide))
      | ((with_reducible apply Bd.lit); exact eq_true (by decide))
      | with_reducible apply Bd.neg
      | with_reducible apply Bd.div
      | ((with_reducible apply Bd.om); omega)
      | ((with_reducible apply R.isLe); first | decide | omega)
      | with_reducible apply R.un
      | with_reducible apply R.u1
      | with_reducible apply R.tup
      | with_reducible apply R.lst
      | with_reducible apply R.call
      | with_reducible apply R.callB
      | with_reducible apply R.gtup
      | with_reducible apply R.gnil
      | with_reducible apply R.seq
      | with_reducible apply R.asg
      | with_reducible apply R.ret
      | with_reducible apply R.next
      | with_reducible apply R.drop
      | with_reducible apply R.par
      | with_reducible apply R.par2
      | with_reducible apply R.ifs
      | with_reducible apply R.tif
      | with_reducible apply R.test
      | with_reducible apply R.tb'
      | with_reducible apply R.isbl
      | with_reducible apply R.cmp
      | with_reducible apply R.t2i
      | with_reducible apply R.intp
      | with_reducible apply R.and
      | with_reducible apply R.or
      | with_reducible apply R.not
      | with_reducible apply R.andV
      | with_reducible apply R.orV
      | with_reducible apply R.notV
      | with_reducible apply R.chain
      | with_reducible apply R.tupL
      | with_reducible apply R.lstL
      | with_reducible apply R.cat
      | with_reducible apply R.isiT
      | with_reducible apply R.isiTup
      | with_reducible apply R.isiLst
      | with_reducible apply R.nwT
      | with_reducible apply R.nwL
      | ((with_reducible apply R.mt); intro HN tn sn nn ht)
      | ((with_reducible apply R.ml); intro HN tn sn nn ht)
      | ((with_reducible apply R.ne4); focus ((repeat' (first | with_reducible assumption | with_reducible apply hU | ((with_reducible apply SqT.of); with_reducible assumption) | ((with_reducible apply same_seqT); with_reducible assumption) | ((with_reducible apply kp_seqT); with_reducible assumption) | ((with_reducible apply Dw.same); with_reducible assumption))); done))
      | ((with_reducible apply R.ne3); focus ((repeat' (first | with_reducible assumption | with_reducible apply hU | ((with_reducible apply SqT.of); with_reducible assumption) | ((with_reducible apply same_seqT); with_reducible assumption) | ((with_reducible apply kp_seqT); with_reducible assumption) | ((with_reducible apply Dw.same); with_reducible assumption))); done))
      | ((with_reducible apply R.ne2); focus ((repeat' (first | with_reducible assumption | with_reducible apply hU | ((with_reducible apply SqT.of); with_reducible assumption) | ((with_reducible apply same_seqT); with_reducible assumption) | ((with_reducible apply kp_seqT); with_reducible assumption) | ((with_reducible apply Dw.same); with_reducible assumption))); done))
      | ((with_reducible apply R.eq4); focus ((repeat' (first | with_reducible assumption | with_reducible apply hU | ((with_reducible apply SqT.of); with_reducible assumption) | ((with_reducible apply same_seqT); with_reducible assumption) | ((with_reducible apply kp_seqT); with_reducible assumption) | ((with_reducible apply Dw.same); with_reducible assumption))); done))
      | ((with_reducible apply R.eq3); focus ((repeat' (first | with_reducible assumption | with_reducible apply hU | ((with_reducible apply SqT.of); with_reducible assumption) | ((with_reducible apply same_seqT); with_reducible assumption) | ((with_reducible apply kp_seqT); with_reducible assumption) | ((with_reducible apply Dw.same); with_reducible assumption))); done))
      | ((with_reducible apply R.eq2); focus ((repeat' (first | with_reducible assumption | with_reducible apply hU | ((with_reducible apply SqT.of); with_reducible assumption) | ((with_reducible apply same_seqT); with_reducible assumption) | ((with_reducible apply kp_seqT); with_reducible assumption) | ((with_reducible apply Dw.same); with_reducible assumption))); done))
      | with_reducible apply uLawNext
      | with_reducible apply uLawWide
      | with_reducible apply uLawChange
      | with_reducible apply uMultiply
      | with_reducible apply uDeterminant
      | with_reducible apply uApply
      | with_reducible apply uNegative
      | with_reducible apply uLawAt
      | with_reducible apply uLawMul
      | with_reducible apply uInverse
      | ((with_reducible apply R.nw); intro HN tn sn ht)
      | with_reducible apply iteT
      | with_reducible apply iteF
      | ((with_reducible apply SqT.of); with_reducible assumption)
      | ((with_reducible apply SqL.of); with_reducible assumption)
      | ((with_reducible apply same_seqT); with_reducible assumption)
      | ((with_reducible apply sameB); with_reducible assumption)
      | ((with_reducible apply same_at); with_reducible assumption)
      | ((with_reducible apply kp_seqT); with_reducible assumption)
      | ((with_reducible apply Same.seq); with_reducible assumption)
      | ((with_reducible apply Kp.seqL); with_reducible assumption)
      | ((with_reducible apply fresh_ne); with_reducible assumption)
      | ((with_reducible apply Dw.same); with_reducible assumption)
      | ((with_reducible apply R.isEq); exact eq_true (by first | decide | omega))
      | ((with_reducible apply R.isLt); first | decide | omega)
      | ((with_reducible apply R.isLtI); first | decide | omega)
      | ((with_reducible apply R.isLeI); first | decide | omega)
      | ((with_reducible apply R.cdiv); exact rfl)
      | ((with_reducible apply R.cpow); exact rfl)
      | with_reducible apply hU
      | ((with_reducible apply wayNF); first | exact rfl | exact ⟨rfl, rfl⟩ | exact ⟨rfl, rfl, rfl⟩ | exact ⟨rfl, rfl, rfl, rfl⟩)
      | with_reducible apply R.forE
      | with_reducible apply R.rng1
      | with_reducible apply R.rng2
      | with_reducible apply R.rg1
      | with_reducible apply R.rg2
      | with_reducible apply R.lcE
      | with_reducible apply R.itup
      | with_reducible apply R.ilst
      )
    intro H7 t g1 g2 g3 g4 d7 k7 s7 l7
    have l7 := l7.mono (show Int.toNat 5 ≤ 10 by decide)
    obtain ⟨bg1, bg2, bg3, bg4⟩ := l7.bd (by decide)
    repeat' (first
      | with_reducible apply R.var
      | ((with_reducible apply R.isEq); exact rfl)
      | with_reducible apply R.op
      | with_reducible apply R.i2
      | with_reducible apply R.i0
      | with_reducible apply R.con
      | with_reducible apply R.cons
      | with_reducible apply R.nil
      | with_reducible apply R.gcons
      | with_reducible apply R.gname
      | ((with_reducible apply R.ixT); (focus ((repeat' (first | with_reducible assumption | with_reducible apply hU | ((with_reducible apply SqT.of); with_reducible assumption) | ((with_reducible apply same_seqT); with_reducible assumption) | ((with_reducible apply kp_seqT); with_reducible assumption) | ((with_reducible apply Dw.same); with_reducible assumption))); done)); exact rfl)
      | ((with_reducible apply R.ixL); (focus ((repeat' (first | with_reducible assumption | ((with_reducible apply SqL.of); with_reducible assumption) | ((with_reducible apply Same.seq); with_reducible assumption) | ((with_reducible apply Kp.seqL); with_reducible assumption) | ((with_reducible apply fresh_ne); with_reducible assumption) | ((with_reducible apply Dw.same); with_reducible assumption))); done)); exact rfl)
      | with_reducible assumption
      | with_reducible apply Bd.mulW
      | with_reducible apply Bd.mul
      | with_reducible apply Bd.add
      | with_reducible apply Bd.sub
      | ((with_reducible apply Bd.l8); exact eq_true (by decide))
      | ((with_reducible apply Bd.lit); exact eq_true (by decide))
      | with_reducible apply Bd.neg
      | with_reducible apply Bd.div
      | ((with_reducible apply Bd.om); omega)
      | ((with_reducible apply R.isLe); first | decide | omega)
      | with_reducible apply R.un
      | with_reducible apply R.u1
      | with_reducible apply R.tup
      | with_reducible apply R.lst
      | with_reducible apply R.call
      | with_reducible apply R.callB
      | with_reducible apply R.gtup
      | with_reducible apply R.gnil
      | with_reducible apply R.seq
      | with_reducible apply R.asg
      | with_reducible apply R.ret
      | with_reducible apply R.next
      | with_reducible apply R.drop
      | with_reducible apply R.par
      | with_reducible apply R.par2
      | with_reducible apply R.ifs
      | with_reducible apply R.tif
      | with_reducible apply R.test
      | with_reducible apply R.tb'
      | with_reducible apply R.isbl
      | with_reducible apply R.cmp
      | with_reducible apply R.t2i
      | with_reducible apply R.intp
      | with_reducible apply R.and
      | with_reducible apply R.or
      | with_reducible apply R.not
      | with_reducible apply R.andV
      | with_reducible apply R.orV
      | with_reducible apply R.notV
      | with_reducible apply R.chain
      | with_reducible apply R.tupL
      | with_reducible apply R.lstL
      | with_reducible apply R.cat
      | with_reducible apply R.isiT
      | with_reducible apply R.isiTup
      | with_reducible apply R.isiLst
      | with_reducible apply R.nwT
      | with_reducible apply R.nwL
      | ((with_reducible apply R.mt); intro HN tn sn nn ht)
      | ((with_reducible apply R.ml); intro HN tn sn nn ht)
      | ((with_reducible apply R.ne4); focus ((repeat' (first | with_reducible assumption | with_reducible apply hU | ((with_reducible apply SqT.of); with_reducible assumption) | ((with_reducible apply same_seqT); with_reducible assumption) | ((with_reducible apply kp_seqT); with_reducible assumption) | ((with_reducible apply Dw.same); with_reducible assumption))); done))
      | ((with_reducible apply R.ne3); focus ((repeat' (first | with_reducible assumption | with_reducible apply hU | ((with_reducible apply SqT.of); with_reducible assumption) | ((with_reducible apply same_seqT); with_reducible assumption) | ((with_reducible apply kp_seqT); with_reducible assumption) | ((with_reducible apply Dw.same); with_reducible assumption))); done))
      | ((with_reducible apply R.ne2); focus ((repeat' (first | with_reducible assumption | with_reducible apply hU | ((with_reducible apply SqT.of); with_reducible assumption) | ((with_reducible apply same_seqT); with_reducible assumption) | ((with_reducible apply kp_seqT); with_reducible assumption) | ((with_reducible apply Dw.same); with_reducible assumption))); done))
      | ((with_reducible apply R.eq4); focus ((repeat' (first | with_reducible assumption | with_reducible apply hU | ((with_reducible apply SqT.of); with_reducible assumption) | ((with_reducible apply same_seqT); with_reducible assumption) | ((with_reducible apply kp_seqT); with_reducible assumption) | ((with_reducible apply Dw.same); with_reducible assumption))); done))
      | ((with_reducible apply R.eq3); focus ((repeat' (first | with_reducible assumption | with_reducible apply hU | ((with_reducible apply SqT.of); with_reducible assumption) | ((with_reducible apply same_seqT); with_reducible assumption) | ((with_reducible apply kp_seqT); with_reducible assumption) | ((with_reducible apply Dw.same); with_reducible assumption))); done))
      | ((with_reducible apply R.eq2); focus ((repeat' (first | with_reducible assumption | with_reducible apply hU | ((with_reducible apply SqT.of); with_reducible assumption) | ((with_reducible apply same_seqT); with_reducible assumption) | ((with_reducible apply kp_seqT); with_reducible assumption) | ((with_reducible apply Dw.same); with_reducible assumption))); done))
      | with_reducible apply uLawNext
      | with_reducible apply uLawWide
      | with_reducible apply uLawChange
      | with_reducible apply uMultiply
      | with_reducible apply uDeterminant
      | with_reducible apply uApply
      | with_reducible apply uNegative
      | with_reducible apply uLawAt
      | with_reducible apply uLawMul
      | with_reducible apply uInverse
      | ((with_reducible apply R.nw); intro HN tn sn ht)
      | with_reducible apply iteT
      | with_reducible apply iteF
      | ((with_reducible apply SqT.of); with_reducible assumption)
      | ((with_reducible apply SqL.of); with_reducible assumption)
      | ((with_reducible apply same_seqT); with_reducible assumption)
      | ((with_reducible apply sameB); with_reducible assumption)
      | ((with_reducible apply same_at); with_reducible assumption)
      | ((with_reducible apply kp_seqT); with_reducible assumption)
      | ((with_reducible apply Same.seq); with_reducible assumption)
      | ((with_reducible apply Kp.seqL); with_reducible assumption)
      | ((with_reducible apply fresh_ne); with_reducible assumption)
      | ((with_reducible apply Dw.same); with_reducible assumption)
      | ((with_reducible apply R.isEq); exact eq_true (by first | decide | omega))
      | ((with_reducible apply R.isLt); first | decide | omega)
      | ((with_reducible apply R.isLtI); first | decide | omega)
      | ((with_reducible apply R.isLeI); first | decide | omega)
      | ((with_reducible apply R.cdiv); exact rfl)
      | ((with_reducible apply R.cpow); exact rfl)
      | with_reducible apply hU
      | ((with_reducible apply wayNF); first | exact rfl | exact ⟨rfl, rfl⟩ | exact ⟨rfl, rfl, rfl⟩ | exact ⟨rfl, rfl, rfl, rfl⟩)
      | with_reducible apply R.forE
      | with_reducible apply R.rng1
      | with_reducible apply R.rng2
      | with_reducible apply R.rg1
      | with_reducible apply R.rg2
      | with_reducible apply R.lcE
      | with_reducible apply R.itup
      | with_reducible apply R.ilst
      )
    refine R.cut (Mid := fun σ H' => ∃ (x2 x8 x9 x10 x11 x12 : Option V) (a3 a4 b c1 c2 c3 c4 : _), σ = [some (.ref l), some (.ref p), x2, some a3, some a4, some (.int (x - 450)), some (.int (y - 450)), some (.ref b), x8, x9, x10, x11, x12] ∧ Dw H' p a 200 ∧ SqT K H' b [.int c1, .int c2, .int c3, .int c4] ∧ (mdet (c1, c2, c3, c4) = 1 ∨ mdet (c1, c2, c3, c4) = -1) ∧ Bd 40 c1 ∧ Bd 40 c2 ∧ Bd 40 c3 ∧ Bd 40 c4) ?_ (fun σ H8 hMid => ?_)
    · skip
      repeat' (first
        | with_reducible apply R.var
        | ((with_reducible apply R.isEq); exact rfl)
        | with_reducible apply R.op
        | with_reducible apply R.i2
        | with_reducible apply R.i0
        | with_reducible apply R.con
        | with_reducible apply R.cons
        | with_reducible apply R.nil
        | with_reducible apply R.gcons
        | with_reducible apply R.gname
        | ((with_reducible apply R.ixT); (focus ((repeat' (first | with_reducible assumption | with_reducible apply hU | ((with_reducible apply SqT.of); with_reducible assumption) | ((with_reducible apply same_seqT); with_reducible assumption) | ((with_reducible apply kp_seqT); with_reducible assumption) | ((with_reducible apply Dw.same); with_reducible assumption))); done)); exact rfl)
        | ((with_reducible apply R.ixL); (focus ((repeat' (first | with_reducible assumption | ((with_reducible apply SqL.of); with_reducible assumption) | ((with_reducible apply Same.seq); with_reducible assumption) | ((with_reducible apply Kp.seqL); with_reducible assumption) | ((with_reducible apply fresh_ne); with_reducible assumption) | ((with_reducible apply Dw.same); with_reducible assumption))); done)); exact rfl)
        | with_reducible assumption
        | with_reducible apply Bd.mulW
        | with_reducible apply Bd.mul
        | with_reducible apply Bd.add
        | with_reducible apply Bd.sub
        | ((with_reducible apply Bd.l8); exact eq_true (by decide))
        | ((with_reducible apply Bd.lit); exact eq_true (by decide))
        | with_reducible apply Bd.neg
        | with_reducible apply Bd.div
        | ((with_reducible apply Bd.om); omega)
        | ((with_reducible apply R.isLe); first | decide | omega)
        | with_reducible apply R.un
        | with_reducible apply R.u1
        | with_reducible apply R.tup
        | with_reducible apply R.lst
        | with_reducible apply R.call
        | with_reducible apply R.callB
        | with_reducible apply R.gtup
        | with_reducible apply R.gnil
        | with_reducible apply R.seq
        | with_reducible apply R.asg
        | with_reducible apply R.ret
        | with_reducible apply R.next
        | with_reducible apply R.drop
        | with_reducible apply R.par
        | with_reducible apply R.par2
        | with_reducible apply R.ifs
        | with_reducible apply R.tif
        | with_reducible apply R.test
        | with_reducible apply R.tb'
        | with_reducible apply R.isbl
        | with_reducible apply R.cmp
        | with_reducible apply R.t2i
        | with_reducible apply R.intp
        | with_reducible apply R.and
        | with_reducible apply R.or
        | with_reducible apply R.not
        | with_reducible apply R.andV
        | with_reducible apply R.orV
        | with_reducible apply R.notV
        | with_reducible apply R.chain
        | with_reducible apply R.tupL
        | with_reducible apply R.lstL
        | with_reducible apply R.cat
        | with_reducible apply R.isiT
        | with_reducible apply R.isiTup
        | with_reducible apply R.isiLst
        | with_reducible apply R.nwT
        | with_reducible apply R.nwL
        | ((with_reducible apply R.mt); intro HN tn sn nn ht)
        | ((with_reducible apply R.ml); intro HN tn sn nn ht)
        | ((with_reducible apply R.ne4); focus ((repeat' (first | with_reducible assumption | with_reducible apply hU | ((with_reducible apply SqT.of); with_reducible assumption) | ((with_reducible apply same_seqT); with_reducible assumption) | ((with_reducible apply kp_seqT); with_reducible assumption) | ((with_reducible apply Dw.same); with_reducible assumption))); done))
        | ((with_reducible apply R.ne3); focus ((repeat' (first | with_reducible assumption | with_reducible apply hU | ((with_reducible apply SqT.of); with_reducible assumption) | ((with_reducible apply same_seqT); with_reducible assumption) | ((with_reducible apply kp_seqT); with_reducible assumption) | ((with_reducible apply Dw.same); with_reducible assumption))); done))
        | ((with_reducible apply R.ne2); focus ((repeat' (first | with_reducible assumption | with_reducible apply hU | ((with_reducible apply SqT.of); with_reducible assumption) | ((with_reducible apply same_seqT); with_reducible assumption) | ((with_reducible apply kp_seqT); with_reducible assumption) | ((with_reducible apply Dw.same); with_reducible assumption))); done))
        | ((with_reducible apply R.eq4); focus ((repeat' (first | with_reducible assumption | with_reducible apply hU | ((with_reducible apply SqT.of); with_reducible assumption) | ((with_reducible apply same_seqT); with_reducible assumption) | ((with_reducible apply kp_seqT); with_reducible assumption) | ((with_reducible apply Dw.same); with_reducible assumption))); done))
        | ((with_reducible apply R.eq3); focus ((repeat' (first | with_reducible assumption | with_reducible apply hU | ((with_reducible apply SqT.of); with_reducible assumption) | ((with_reducible apply same_seqT); with_reducible assumption) | ((with_reducible apply kp_seqT); with_reducible assumption) | ((with_reducible apply Dw.same); with_reducible assumption))); done))
        | ((with_reducible apply R.eq2); focus ((repeat' (first | with_reducible assumption | with_reducible apply hU | ((with_reducible apply SqT.of); with_reducible assumption) | ((with_reducible apply same_seqT); with_reducible assumption) | ((with_reducible apply kp_seqT); with_reducible assumption) | ((with_reducible apply Dw.same); with_reducible assumption))); done))
        | with_reducible apply uLawNext
        | with_reducible apply uLawWide
        | with_reducible apply uLawChange
        | with_reducible apply uMultiply
        | with_reducible apply uDeterminant
        | with_reducible apply uApply
        | with_reducible apply uNegative
        | with_reducible apply uLawAt
        | with_reducible apply uLawMul
        | with_reducible apply uInverse
        | ((with_reducible apply R.nw); intro HN tn sn ht)
        | with_reducible apply iteT
        | with_reducible apply iteF
        | ((with_reducible apply SqT.of); with_reducible assumption)
        | ((with_reducible apply SqL.of); with_reducible assumption)
        | ((with_reducible apply same_seqT); with_reducible assumption)
        | ((with_reducible apply sameB); with_reducible assumption)
        | ((with_reducible apply same_at); with_reducible assumption)
        | ((with_reducible apply kp_seqT); with_reducible assumption)
        | ((with_reducible apply Same.seq); with_reducible assumption)
        | ((with_reducible apply Kp.seqL); with_reducible assumption)
        | ((with_reducible apply fresh_ne); with_reducible assumption)
        | ((with_reducible apply Dw.same); with_reducible assumption)
        | ((with_reducible apply R.isEq); exact eq_true (by first | decide | omega))
        | ((with_reducible apply R.isLt); first | decide | omega)
        | ((with_reducible apply R.isLtI); first | decide | omega)
        | ((with_reducible apply R.isLeI); first | decide | omega)
        | ((with_reducible apply R.cdiv); exact rfl)
        | ((with_reducible apply R.cpow); exact rfl)
        | with_reducible apply hU
        | ((with_reducible apply wayNF); first | exact rfl | exact ⟨rfl, rfl⟩ | exact ⟨rfl, rfl, rfl⟩ | exact ⟨rfl, rfl, rfl, rfl⟩)
        | with_reducible apply R.forE
        | with_reducible apply R.rng1
        | with_reducible apply R.rng2
        | with_reducible apply R.rg1
        | with_reducible apply R.rg2
        | with_reducible apply R.lcE
        | with_reducible apply R.itup
        | with_reducible apply R.ilst
        )
      intro r H8 ra rb d8 k8
      repeat' (first
        | with_reducible apply R.var
        | ((with_reducible apply R.isEq); exact rfl)
        | with_reducible apply R.op
        | with_reducible apply R.i2
        | with_reducible apply R.i0
        | with_reducible apply R.con
        | with_reducible apply R.cons
        | with_reducible apply R.nil
        | with_reducible apply R.gcons
        | with_reducible apply R.gname
        | ((with_reducible apply R.ixT); (focus ((repeat' (first | with_reducible assumption | with_reducible apply hU | ((with_reducible apply SqT.of); with_reducible assumption) | ((with_reducible apply same_seqT); with_reducible assumption) | ((with_reducible apply kp_seqT); with_reducible assumption) | ((with_reducible apply Dw.same); with_reducible assumption))); done)); exact rfl)
        | ((with_reducible apply R.ixL); (focus ((repeat' (first | with_reducible assumption | ((with_reducible apply SqL.of); with_reducible assumption) | ((with_reducible apply Same.seq); with_reducible assumption) | ((with_reducible apply Kp.seqL); with_reducible assumption) | ((with_reducible apply fresh_ne); with_reducible assumption) | ((with_reducible apply Dw.same); with_reducible assumption))); done)); exact rfl)
        | with_reducible assumption
        | with_reducible apply Bd.mulW
        | with_reducible apply Bd.mul
        | with_reducible apply Bd.add
        | with_reducible apply Bd.sub
        | ((with_reducible apply Bd.l8); exact eq_true (by decide))
        | ((with_reducible apply Bd.lit); exact eq_true (by decide))
        | with_reducible apply Bd.neg
        | with_reducible apply Bd.div
        | ((with_reducible apply Bd.om); omega)
        | ((with_reducible apply R.isLe); first | decide | omega)
        | with_reducible apply R.un
        | with_reducible apply R.u1
        | with_reducible apply R.tup
        | with_reducible apply R.lst
        | with_reducible apply R.call
        | with_reducible apply R.callB
        | with_reducible apply R.gtup
        | with_reducible apply R.gnil
        | with_reducible apply R.seq
        | with_reducible apply R.asg
        | with_reducible apply R.ret
        | with_reducible apply R.next
        | with_reducible apply R.drop
        | with_reducible apply R.par
        | with_reducible apply R.par2
        | with_reducible apply R.ifs
        | with_reducible apply R.tif
        | with_reducible apply R.test
        | with_reducible apply R.tb'
        | with_reducible apply R.isbl
        | with_reducible apply R.cmp
        | with_reducible apply R.t2i
        | with_reducible apply R.intp
        | with_reducible apply R.and
        | with_reducible apply R.or
        | with_reducible apply R.not
        | with_reducible apply R.andV
        | with_reducible apply R.orV
        | with_reducible apply R.notV
        | with_reducible apply R.chain
        | with_reducible apply R.tupL
        | with_reducible apply R.lstL
        | with_reducible apply R.cat
        | with_reducible apply R.isiT
        | with_reducible apply R.isiTup
        | with_reducible apply R.isiLst
        | with_reducible apply R.nwT
        | with_reducible apply R.nwL
        | ((with_reducible apply R.mt); intro HN tn sn nn ht)
        | ((with_reducible apply R.ml); intro HN tn sn nn ht)
        | ((with_reducible apply R.ne4); focus ((repeat' (first | with_reducible assumption | with_reducible apply hU | ((with_reducible apply SqT.of); with_reducible assumption) | ((with_reducible apply same_seqT); with_reducible assumption) | ((with_reducible apply kp_seqT); with_reducible assumption) | ((with_reducible apply Dw.same); with_reducible assumption))); done))
        | ((with_reducible apply R.ne3); focus ((repeat' (first | with_reducible assumption | with_reducible apply hU | ((with_reducible apply SqT.of); with_reducible assumption) | ((with_reducible apply same_seqT); with_reducible assumption) | ((with_reducible apply kp_seqT); with_reducible assumption) | ((with_reducible apply Dw.same); with_reducible assumption))); done))
        | ((with_reducible apply R.ne2); focus ((repeat' (first | with_reducible assumption | with_reducible apply hU | ((with_reducible apply SqT.of); with_reducible assumption) | ((with_reducible apply same_seqT); with_reducible assumption) | ((with_reducible apply kp_seqT); with_reducible assumption) | ((with_reducible apply Dw.same); with_reducible assumption))); done))
        | ((with_reducible apply R.eq4); focus ((repeat' (first | with_reducible assumption | with_reducible apply hU | ((with_reducible apply SqT.of); with_reducible assumption) | ((with_reducible apply same_seqT); with_reducible assumption) | ((with_reducible apply kp_seqT); with_reducible assumption) | ((with_reducible apply Dw.same); with_reducible assumption))); done))
        | ((with_reducible apply R.eq3); focus ((repeat' (first | with_reducible assumption | with_reducible apply hU | ((with_reducible apply SqT.of); with_reducible assumption) | ((with_reducible apply same_seqT); with_reducible assumption) | ((with_reducible apply kp_seqT); with_reducible assumption) | ((with_reducible apply Dw.same); with_reducible assumption))); done))
        | ((with_reducible apply R.eq2); focus ((repeat' (first | with_reducible assumption | with_reducible apply hU | ((with_reducible apply SqT.of); with_reducible assumption) | ((with_reducible apply same_seqT); with_reducible assumption) | ((with_reducible apply kp_seqT); with_reducible assumption) | ((with_reducible apply Dw.same); with_reducible assumption))); done))
        | with_reducible apply uLawNext
        | with_reducible apply uLawWide
        | with_reducible apply uLawChange
        | with_reducible apply uMultiply
        | with_reducible apply uDeterminant
        | with_reducible apply uApply
        | with_reducible apply uNegative
        | with_reducible apply uLawAt
        | with_reducible apply uLawMul
        | with_reducible apply uInverse
        | ((with_reducible apply R.nw); intro HN tn sn ht)
        | with_reducible apply iteT
        | with_reducible apply iteF
        | ((with_reducible apply SqT.of); with_reducible assumption)
        | ((with_reducible apply SqL.of); with_reducible assumption)
        | ((with_reducible apply same_seqT); with_reducible assumption)
        | ((with_reducible apply sameB); with_reducible assumption)
        | ((with_reducible apply same_at); with_reducible assumption)
        | ((with_reducible apply kp_seqT); with_reducible assumption)
        | ((with_reducible apply Same.seq); with_reducible assumption)
        | ((with_reducible apply Kp.seqL); with_reducible assumption)
        | ((with_reducible apply fresh_ne); with_reducible assumption)
        | ((with_reducible apply Dw.same); with_reducible assumption)
        | ((with_reducible apply R.isEq); exact eq_true (by first | decide | omega))
        | ((with_reducible apply R.isLt); first | decide | omega)
        | ((with_reducible apply R.isLtI); first | decide | omega)
        | ((with_reducible apply R.isLeI); first | decide | omega)
        | ((with_reducible apply R.cdiv); exact rfl)
        | ((with_reducible apply R.cpow); exact rfl)
        | with_reducible apply hU
        | ((with_reducible apply wayNF); first | exact rfl | exact ⟨rfl, rfl⟩ | exact ⟨rfl, rfl, rfl⟩ | exact ⟨rfl, rfl, rfl, rfl⟩)
        | with_reducible apply R.forE
        | with_reducible apply R.rng1
        | with_reducible apply R.rng2
        | with_reducible apply R.rg1
        | with_reducible apply R.rg2
        | with_reducible apply R.lcE
        | with_reducible apply R.itup
        | with_reducible apply R.ilst
        )
      refine way2 (fun e => ?_) (fun e => ?_)
      · skip
        repeat' (first
          | with_reducible apply R.var
          | ((with_reducible apply R.isEq); exact rfl)
          | with_reducible apply R.op
          | with_reducible apply R.i2
          | with_reducible apply R.i0
          | with_reducible apply R.con
          | with_reducible apply R.cons
          | with_reducible apply R.nil
          | with_reducible apply R.gcons
          | with_reducible apply R.gname
          | ((with_reducible apply R.ixT); (focus ((repeat' (first | with_reducible assumption | with_reducible apply hU | ((with_reducible apply SqT.of); with_reducible assumption) | ((with_reducible apply same_seqT); with_reducible assumption) | ((with_reducible apply kp_seqT); with_reducible assumption) | ((with_reducible apply Dw.same); with_reducible assumption))); done)); exact rfl)
          | ((with_reducible apply R.ixL); (focus ((repeat' (first | with_reducible assumption | ((with_reducible apply SqL.of); with_reducible assumption) | ((with_reducible apply Same.seq); with_reducible assumption) | ((with_reducible apply Kp.seqL); with_reducible assumption) | ((with_reducible apply fresh_ne); with_reducible assumption) | ((with_reducible apply Dw.same); with_reducible assumption))); done)); exact rfl)
          | with_reducible assumption
          | with_reducible apply Bd.mulW
          | with_reducible apply Bd.mul
          | with_reducible apply Bd.add
          | with_reducible apply Bd.sub
          | ((with_reducible apply Bd.l8); exact eq_true (by decide))
          | ((with_reducible apply Bd.lit); exact eq_true (by decide))
          | with_reducible apply Bd.neg
          | with_reducible apply Bd.div
          | ((with_reducible apply Bd.om); omega)
          | ((with_reducible apply R.isLe); first | decide | omega)
          | with_reducible apply R.un
          | with_reducible apply R.u1
          | with_reducible apply R.tup
          | with_reducible apply R.lst
          | with_reducible apply R.call
          | with_reducible apply R.callB
          | with_reducible apply R.gtup
          | with_reducible apply R.gnil
          | with_reducible apply R.seq
          | with_reducible apply R.asg
          | with_reducible apply R.ret
          | with_reducible apply R.next
          | with_reducible apply R.drop
          | with_reducible apply R.par
          | with_reducible apply R.par2
          | with_reducible apply R.ifs
          | with_reducible apply R.tif
          | with_reducible apply R.test
          | with_reducible apply R.tb'
          | with_reducible apply R.isbl
          | with_reducible apply R.cmp
          | with_reducible apply R.t2i
          | with_reducible apply R.intp
          | with_reducible apply R.and
          | with_reducible apply R.or
          | with_reducible apply R.not
          | with_reducible apply R.andV
          | with_reducible apply R.orV
          | with_reducible apply R.notV
          | with_reducible apply R.chain
          | with_reducible apply R.tupL
          | with_reducible apply R.lstL
          | with_reducible apply R.cat
          | with_reducible apply R.isiT
          | with_reducible apply R.isiTup
          | with_reducible apply R.isiLst
          | with_reducible apply R.nwT
          | with_reducible apply R.nwL
          | ((with_reducible apply R.mt); intro HN tn sn nn ht)
          | ((with_reducible apply R.ml); intro HN tn sn nn ht)
          | ((with_reducible apply R.ne4); focus ((repeat' (first | with_reducible assumption | with_reducible apply hU | ((with_reducible apply SqT.of); with_reducible assumption) | ((with_reducible apply same_seqT); with_reducible assumption) | ((with_reducible apply kp_seqT); with_reducible assumption) | ((with_reducible apply Dw.same); with_reducible assumption))); done))
          | ((with_reducible apply R.ne3); focus ((repeat' (first | with_reducible assumption | with_reducible apply hU | ((with_reducible apply SqT.of); with_reducible assumption) | ((with_reducible apply same_seqT); with_reducible assumption) | ((with_reducible apply kp_seqT); with_reducible assumption) | ((with_reducible apply Dw.same); with_reducible assumption))); done))
          | ((with_reducible apply R.ne2); focus ((repeat' (first | with_reducible assumption | with_reducible apply hU | ((with_reducible apply SqT.of); with_reducible assumption) | ((with_reducible apply same_seqT); with_reducible assumption) | ((with_reducible apply kp_seqT); with_reducible assumption) | ((with_reducible apply Dw.same); with_reducible assumption))); done))
          | ((with_reducible apply R.eq4); focus ((repeat' (first | with_reducible assumption | with_reducible apply hU | ((with_reducible apply SqT.of); with_reducible assumption) | ((with_reducible apply same_seqT); with_reducible assumption) | ((with_reducible apply kp_seqT); with_reducible assumption) | ((with_reducible apply Dw.same); with_reducible assumption))); done))
          | ((with_reducible apply R.eq3); focus ((repeat' (first | with_reducible assumption | with_reducible apply hU | ((with_reducible apply SqT.of); with_reducible assumption) | ((with_reducible apply same_seqT); with_reducible assumption) | ((with_reducible apply kp_seqT); with_reducible assumption) | ((with_reducible apply Dw.same); with_reducible assumption))); done))
          | ((with_reducible apply R.eq2); focus ((repeat' (first | with_reducible assumption | with_reducible apply hU | ((with_reducible apply SqT.of); with_reducible assumption) | ((with_reducible apply same_seqT); with_reducible assumption) | ((with_reducible apply kp_seqT); with_reducible assumption) | ((with_reducible apply Dw.same); with_reducible assumption))); done))
          | with_reducible apply uLawNext
          | with_reducible apply uLawWide
          | with_reducible apply uLawChange
          | with_reducible apply uMultiply
          | with_reducible apply uDeterminant
          | with_reducible apply uApply
          | with_reducible apply uNegative
          | with_reducible apply uLawAt
          | with_reducible apply uLawMul
          | with_reducible apply uInverse
          | ((with_reducible apply R.nw); intro HN tn sn ht)
          | with_reducible apply iteT
          | with_reducible apply iteF
          | ((with_reducible apply SqT.of); with_reducible assumption)
          | ((with_reducible apply SqL.of); with_reducible assumption)
          | ((with_reducible apply same_seqT); with_reducible assumption)
          | ((with_reducible apply sameB); with_reducible assumption)
          | ((with_reducible apply same_at); with_reducible assumption)
          | ((with_reducible apply kp_seqT); with_reducible assumption)
          | ((with_reducible apply Same.seq); with_reducible assumption)
          | ((with_reducible apply Kp.seqL); with_reducible assumption)
          | ((with_reducible apply fresh_ne); with_reducible assumption)
          | ((with_reducible apply Dw.same); with_reducible assumption)
          | ((with_reducible apply R.isEq); exact eq_true (by first | decide | omega))
          | ((with_reducible apply R.isLt); first | decide | omega)
          | ((with_reducible apply R.isLtI); first | decide | omega)
          | ((with_reducible apply R.isLeI); first | decide | omega)
          | ((with_reducible apply R.cdiv); exact rfl)
          | ((with_reducible apply R.cpow); exact rfl)
          | with_reducible apply hU
          | ((with_reducible apply wayNF); first | exact rfl | exact ⟨rfl, rfl⟩ | exact ⟨rfl, rfl, rfl⟩ | exact ⟨rfl, rfl, rfl, rfl⟩)
          | with_reducible apply R.forE
          | with_reducible apply R.rng1
          | with_reducible apply R.rng2
          | with_reducible apply R.rg1
          | with_reducible apply R.rg2
          | with_reducible apply R.lcE
          | with_reducible apply R.itup
          | with_reducible apply R.ilst
          )
        refine ⟨_, _, _, _, _, _, _, _, _, _, _, _, _, rfl, ?_, SqT.of ht, ?_, ?_⟩
        · refine Dw.mono (N := 0 + 6 * Int.toNat 4 + 1 * Int.toNat 4 + 1 + 1 + 31 + 1) ?_ (by decide)
          repeat' (first
            | with_reducible apply R.var
            | ((with_reducible apply R.isEq); exact rfl)
            | with_reducible apply R.op
            | with_reducible apply R.i2
            | with_reducible apply R.i0
            | with_reducible apply R.con
            | with_reducible apply R.cons
            | with_reducible apply R.nil
            | with_reducible apply R.gcons
            | with_reducible apply R.gname
            | ((with_reducible apply R.ixT); (focus ((repeat' (first | with_reducible assumption | with_reducible apply hU | ((with_reducible apply SqT.of); with_reducible assumption) | ((with_reducible apply same_seqT); with_reducible assumption) | ((with_reducible apply kp_seqT); with_reducible assumption) | ((with_reducible apply Dw.same); with_reducible assumption))); done)); exact rfl)
            | ((with_reducible apply R.ixL); (focus ((repeat' (first | with_reducible assumption | ((with_reducible apply SqL.of); with_reducible assumption) | ((with_reducible apply Same.seq); with_reducible assumption) | ((with_reducible apply Kp.seqL); with_reducible assumption) | ((with_reducible apply fresh_ne); with_reducible assumption) | ((with_reducible apply Dw.same); with_reducible assumption))); done)); exact rfl)
            | with_reducible assumption
            | with_reducible apply Bd.mulW
            | with_reducible apply Bd.mul
            | with_reducible apply Bd.add
            | with_reducible apply Bd.sub
            | ((with_reducible apply Bd.l8); exact eq_true (by decide))
            | ((with_reducible apply Bd.lit); exact eq_true (by decide))
            | with_reducible apply Bd.neg
            | with_reducible apply Bd.div
            | ((with_reducible apply Bd.om); omega)
            | ((with_reducible apply R.isLe); first | decide | omega)
            | with_reducible apply R.un
            | with_reducible apply R.u1
            | with_reducible apply R.tup
            | with_reducible apply R.lst
            | with_reducible apply R.call
            | with_reducible apply R.callB
            | with_reducible apply R.gtup
            | with_reducible apply R.gnil
            | with_reducible apply R.seq
            | with_reducible apply R.asg
            | with_reducible apply R.ret
            | with_reducible apply R.next
            | with_reducible apply R.drop
            | with_reducible apply R.par
            | with_reducible apply R.par2
            | with_reducible apply R.ifs
            | with_reducible apply R.tif
            | with_reducible apply R.test
            | with_reducible apply R.tb'
            | with_reducible apply R.isbl
            | with_reducible apply R.cmp
            | with_reducible apply R.t2i
            | with_reducible apply R.intp
            | with_reducible apply R.and
            | with_reducible apply R.or
            | with_reducible apply R.not
            | with_reducible apply R.andV
            | with_reducible apply R.orV
            | with_reducible apply R.notV
            | with_reducible apply R.chain
            | with_reducible apply R.tupL
            | with_reducible apply R.lstL
            | with_reducible apply R.cat
            | with_reducible apply R.isiT
            | with_reducible apply R.isiTup
            | with_reducible apply R.isiLst
            | with_reducible apply R.nwT
            | with_reducible apply R.nwL
            | ((with_reducible apply R.mt); intro HN tn sn nn ht)
            | ((with_reducible apply R.ml); intro HN tn sn nn ht)
            | ((with_reducible apply R.ne4); focus ((repeat' (first | with_reducible assumption | with_reducible apply hU | ((with_reducible apply SqT.of); with_reducible assumption) | ((with_reducible apply same_seqT); with_reducible assumption) | ((with_reducible apply kp_seqT); with_reducible assumption) | ((with_reducible apply Dw.same); with_reducible assumption))); done))
            | ((with_reducible apply R.ne3); focus ((repeat' (first | with_reducible assumption | with_reducible apply hU | ((with_reducible apply SqT.of); with_reducible assumption) | ((with_reducible apply same_seqT); with_reducible assumption) | ((with_reducible apply kp_seqT); with_reducible assumption) | ((with_reducible apply Dw.same); with_reducible assumption))); done))
            | ((with_reducible apply R.ne2); focus ((repeat' (first | with_reducible assumption | with_reducible apply hU | ((with_reducible apply SqT.of); with_reducible assumption) | ((with_reducible apply same_seqT); with_reducible assumption) | ((with_reducible apply kp_seqT); with_reducible assumption) | ((with_reducible apply Dw.same); with_reducible assumption))); done))
            | ((with_reducible apply R.eq4); focus ((repeat' (first | with_reducible assumption | with_reducible apply hU | ((with_reducible apply SqT.of); with_reducible assumption) | ((with_reducible apply same_seqT); with_reducible assumption) | ((with_reducible apply kp_seqT); with_reducible assumption) | ((with_reducible apply Dw.same); with_reducible assumption))); done))
            | ((with_reducible apply R.eq3); focus ((repeat' (first | with_reducible assumption | with_reducible apply hU | ((with_reducible apply SqT.of); with_reducible assumption) | ((with_reducible apply same_seqT); with_reducible assumption) | ((with_reducible apply kp_seqT); with_reducible assumption) | ((with_reducible apply Dw.same); with_reducible assumption))); done))
            | ((with_reducible apply R.eq2); focus ((repeat' (first | with_reducible assumption | with_reducible apply hU | ((with_reducible apply SqT.of); with_reducible assumption) | ((with_reducible apply same_seqT); with_reducible assumption) | ((with_reducible apply kp_seqT); with_reducible assumption) | ((with_reducible apply Dw.same); with_reducible assumption))); done))
            | with_reducible apply uLawNext
            | with_reducible apply uLawWide
            | with_reducible apply uLawChange
            | with_reducible apply uMultiply
            | with_reducible apply uDeterminant
            | with_reducible apply uApply
            | with_reducible apply uNegative
            | with_reducible apply uLawAt
            | with_reducible apply uLawMul
            | with_reducible apply uInverse
            | ((with_reducible apply R.nw); intro HN tn sn ht)
            | with_reducible apply iteT
            | with_reducible apply iteF
            | ((with_reducible apply SqT.of); with_reducible assumption)
            | ((with_reducible apply SqL.of); with_reducible assumption)
            | ((with_reducible apply same_seqT); with_reducible assumption)
            | ((with_reducible apply sameB); with_reducible assumption)
            | ((with_reducible apply same_at); with_reducible assumption)
            | ((with_reducible apply kp_seqT); with_reducible assumption)
            | ((with_reducible apply Same.seq); with_reducible assumption)
            | ((with_reducible apply Kp.seqL); with_reducible assumption)
            | ((with_reducible apply fresh_ne); with_reducible assumption)
            | ((with_reducible apply Dw.same); with_reducible assumption)
            | ((with_reducible apply R.isEq); exact eq_true (by first | decide | omega))
            | ((with_reducible apply R.isLt); first | decide | omega)
            | ((with_reducible apply R.isLtI); first | decide | omega)
            | ((with_reducible apply R.isLeI); first | decide | omega)
            | ((with_reducible apply R.cdiv); exact rfl)
            | ((with_reducible apply R.cpow); exact rfl)
            | with_reducible apply hU
            | ((with_reducible apply wayNF); first | exact rfl | exact ⟨rfl, rfl⟩ | exact ⟨rfl, rfl, rfl⟩ | exact ⟨rfl, rfl, rfl, rfl⟩)
            | with_reducible apply R.forE
            | with_reducible apply R.rng1
            | with_reducible apply R.rng2
            | with_reducible apply R.rg1
            | with_reducible apply R.rg2
            | with_reducible apply R.lcE
            | with_reducible apply R.itup
            | with_reducible apply R.ilst
            )
        · right
          have := l7.1
          show (g1 * 1 + g2 * 0) * (g3 * 0 + g4 * -1) - (g1 * 0 + g2 * -1) * (g3 * 1 + g4 * 0) = -1
          grind
        · exact ⟨by (apply bdm; (repeat' (first   | with_reducible apply R.var   | ((with_reducible apply R.isEq); exact rfl)   | with_reducible apply R.op   | with_reducible apply R.i2   | with_reducible apply R.i0   | with_reducible apply R.con   | with_reducible apply R.cons   | with_reducible apply R.nil   | with_reducible apply R.gcons   | with_reducible apply R.gname   | ((with_reducible apply R.ixT); (focus ((repeat' (first | with_reducible assumption | with_reducible apply hU | ((with_reducible apply SqT.of); with_reducible assumption) | ((with_reducible apply same_seqT); with_reducible assumption) | ((with_reducible apply kp_seqT); with_reducible assumption) | ((with_reducible apply Dw.same); with_reducible assumption))); done)); exact rfl)   | ((with_reducible apply R.ixL); (focus ((repeat' (first | with_reducible assumption | ((with_reducible apply SqL.of); with_reducible assumption) | ((with_reducible apply Same.seq); with_reducible assumption) | ((with_reducible apply Kp.seqL); with_reducible assumption) | ((with_reducible apply fresh_ne); with_reducible assumption) | ((with_reducible apply Dw.same); with_reducible assumption))); done)); exact rfl)   | with_reducible assumption   | with_reducible apply Bd.mulW   | with_reducible apply Bd.mul   | with_reducible apply Bd.add   | with_reducible apply Bd.sub   | ((with_reducible apply Bd.l8); exact eq_true (by decide))   | ((with_reducible apply Bd.lit); exact eq_true (by decide))   | with_reducible apply Bd.neg   | with_reducible apply Bd.div   | ((with_reducible apply Bd.om); omega)   | ((with_reducible apply R.isLe); first | decide | omega)   | with_reducible apply R.un   | with_reducible apply R.u1   | with_reducible apply R.tup   | with_reducible apply R.lst   | with_reducible apply R.call   | with_reducible apply R.callB   | with_reducible apply R.gtup   | with_reducible apply R.gnil   | with_reducible apply R.seq   | with_reducible apply R.asg   | with_reducible apply R.ret   | with_reducible apply R.next   | with_reducible apply R.drop   | with_reducible apply R.par   | with_reducible apply R.par2   | with_reducible apply R.ifs   | with_reducible apply R.tif   | with_reducible apply R.test   | with_reducible apply R.tb'   | with_reducible apply R.isbl   | with_reducible apply R.cmp   | with_reducible apply R.t2i   | with_reducible apply R.intp   | with_reducible apply R.and   | with_reducible apply R.or   | with_reducible apply R.not   | with_reducible apply R.andV   | with_reducible apply R.orV   | with_reducible apply R.notV   | with_reducible apply R.chain   | with_reducible apply R.tupL   | with_reducible apply R.lstL   | with_reducible apply R.cat   | with_reducible apply R.isiT   | with_reducible apply R.isiTup   | with_reducible apply R.isiLst   | with_reducible apply R.nwT   | with_reducible apply R.nwL   | ((with_reducible apply R.mt); intro HN tn sn nn ht)   | ((with_reducible apply R.ml); intro HN tn sn nn ht)   | ((with_reducible apply R.ne4); focus ((repeat' (first | with_reducible assumption | with_reducible apply hU | ((with_reducible apply SqT.of); with_reducible assumption) | ((with_reducible apply same_seqT); with_reducible assumption) | ((with_reducible apply kp_seqT); with_reducible assumption) | ((with_reducible apply Dw.same); with_reducible assumption))); done))   | ((with_reducible apply R.ne3); focus ((repeat' (first | with_reducible assumption | with_reducible apply hU | ((with_reducible apply SqT.of); with_reducible assumption) | ((with_reducible apply same_seqT); with_reducible assumption) | ((with_reducible apply kp_seqT); with_reducible assumption) | ((with_reducible apply Dw.same); with_reducible assumption))); done))   | ((with_reducible apply R.ne2); focus ((repeat' (first | with_reducible assumption | with_reducible apply hU | ((with_reducible apply SqT.of); with_reducible assumption) | ((with_reducible apply same_seqT); with_reducible assumption) | ((with_reducible apply kp_seqT); with_reducible assumption) | ((with_reducible apply Dw.same); with_reducible assumption))); done))   | ((with_reducible apply R.eq4); focus ((repeat' (first | with_reducible assumption | with_reducible apply hU | ((with_reducible apply SqT.of); with_reducible assumption) | ((with_reducible apply same_seqT); with_reducible assumption) | ((with_reducible apply kp_seqT); with_reducible assumption) | ((with_reducible apply Dw.same); with_reducible assumption))); done))   | ((with_reducible apply R.eq3); focus ((repeat' (first | with_reducible assumption | with_reducible apply hU | ((with_reducible apply SqT.of); with_reducible assumption) | ((with_reducible apply same_seqT); with_reducible assumption) | ((with_reducible apply kp_seqT); with_reducible assumption) | ((with_reducible apply Dw.same); with_reducible assumption))); done))   | ((with_reducible apply R.eq2); focus ((repeat' (first | with_reducible assumption | with_reducible apply hU | ((with_reducible apply SqT.of); with_reducible assumption) | ((with_reducible apply same_seqT); with_reducible assumption) | ((with_reducible apply kp_seqT); with_reducible assumption) | ((with_reducible apply Dw.same); with_reducible assumption))); done))   | with_reducible apply uLawNext   | with_reducible apply uLawWide   | with_reducible apply uLawChange   | with_reducible apply uMultiply   | with_reducible apply uDeterminant   | with_reducible apply uApply   | with_reducible apply uNegative   | with_reducible apply uLawAt   | with_reducible apply uLawMul   | with_reducible apply uInverse   | ((with_reducible apply R.nw); intro HN tn sn ht)   | with_reducible apply iteT   | with_reducible apply iteF   | ((with_reducible apply SqT.of); with_reducible assumption)   | ((with_reducible apply SqL.of); with_reducible assumption)   | ((with_reducible apply same_seqT); with_reducible assumption)   | ((with_reducible apply sameB); with_reducible assumption)   | ((with_reducible apply same_at); with_reducible assumption)   | ((with_reducible apply kp_seqT); with_reducible assumption)   | ((with_reducible apply Same.seq); with_reducible assumption)   | ((with_reducible apply Kp.seqL); with_reducible assumption)   | ((with_reducible apply fresh_ne); with_reducible assumption)   | ((with_reducible apply Dw.same); with_reducible assumption)   | ((with_reducible apply R.isEq); exact eq_true (by first | decide | omega))   | ((with_reducible apply R.isLt); first | decide | omega)   | ((with_reducible apply R.isLtI); first | decide | omega)   | ((with_reducible apply R.isLeI); first | decide | omega)   | ((with_reducible apply R.cdiv); exact rfl)   | ((with_reducible apply R.cpow); exact rfl)   | with_reducible apply hU   | ((with_reducible apply wayNF); first | exact rfl | exact ⟨rfl, rfl⟩ | exact ⟨rfl, rfl, rfl⟩ | exact ⟨rfl, rfl, rfl, rfl⟩)   | with_reducible apply R.forE   | with_reducible apply R.rng1   | with_reducible apply R.rng2   | with_reducible apply R.rg1   | with_reducible apply R.rg2   | with_reducible apply R.lcE   | with_reducible apply R.itup   | with_reducible apply R.ilst   ))), by (apply bdm; (repeat' (first   | with_reducible apply R.var   | ((with_reducible apply R.isEq); exact rfl)   | with_reducible apply R.op   | with_reducible apply R.i2   | with_reducible apply R.i0   | with_reducible apply R.con   | with_reducible apply R.cons   | with_reducible apply R.nil   | with_reducible apply R.gcons   | with_reducible apply R.gname   | ((with_reducible apply R.ixT); (focus ((repeat' (first | with_reducible assumption | with_reducible apply hU | ((with_reducible apply SqT.of); with_reducible assumption) | ((with_reducible apply same_seqT); with_reducible assumption) | ((with_reducible apply kp_seqT); with_reducible assumption) | ((with_reducible apply Dw.same); with_reducible assumption))); done)); exact rfl)   | ((with_reducible apply R.ixL); (focus ((repeat' (first | with_reducible assumption | ((with_reducible apply SqL.of); with_reducible assumption) | ((with_reducible apply Same.seq); with_reducible assumption) | ((with_reducible apply Kp.seqL); with_reducible assumption) | ((with_reducible apply fresh_ne); with_reducible assumption) | ((with_reducible apply Dw.same); with_reducible assumption))); done)); exact rfl)   | with_reducible assumption   | with_reducible apply Bd.mulW   | with_reducible apply Bd.mul   | with_reducible apply Bd.add   | with_reducible apply Bd.sub   | ((with_reducible apply Bd.l8); exact eq_true (by decide))   | ((with_reducible apply Bd.lit); exact eq_true (by decide))   | with_reducible apply Bd.neg   | with_reducible apply Bd.div   | ((with_reducible apply Bd.om); omega)   | ((with_reducible apply R.isLe); first | decide | omega)   | with_reducible apply R.un   | with_reducible apply R.u1   | with_reducible apply R.tup   | with_reducible apply R.lst   | with_reducible apply R.call   | with_reducible apply R.callB   | with_reducible apply R.gtup   | with_reducible apply R.gnil   | with_reducible apply R.seq   | with_reducible apply R.asg   | with_reducible apply R.ret   | with_reducible apply R.next   | with_reducible apply R.drop   | with_reducible apply R.par   | with_reducible apply R.par2   | with_reducible apply R.ifs   | with_reducible apply R.tif   | with_reducible apply R.test   | with_reducible apply R.tb'   | with_reducible apply R.isbl   | with_reducible apply R.cmp   | with_reducible apply R.t2i   | with_reducible apply R.intp   | with_reducible apply R.and   | with_reducible apply R.or   | with_reducible apply R.not   | with_reducible apply R.andV   | with_reducible apply R.orV   | with_reducible apply R.notV   | with_reducible apply R.chain   | with_reducible apply R.tupL   | with_reducible apply R.lstL   | with_reducible apply R.cat   | with_reducible apply R.isiT   | with_reducible apply R.isiTup   | with_reducible apply R.isiLst   | with_reducible apply R.nwT   | with_reducible apply R.nwL   | ((with_reducible apply R.mt); intro HN tn sn nn ht)   | ((with_reducible apply R.ml); intro HN tn sn nn ht)   | ((with_reducible apply R.ne4); focus ((repeat' (first | with_reducible assumption | with_reducible apply hU | ((with_reducible apply SqT.of); with_reducible assumption) | ((with_reducible apply same_seqT); with_reducible assumption) | ((with_reducible apply kp_seqT); with_reducible assumption) | ((with_reducible apply Dw.same); with_reducible assumption))); done))   | ((with_reducible apply R.ne3); focus ((repeat' (first | with_reducible assumption | with_reducible apply hU | ((with_reducible apply SqT.of); with_reducible assumption) | ((with_reducible apply same_seqT); with_reducible assumption) | ((with_reducible apply kp_seqT); with_reducible assumption) | ((with_reducible apply Dw.same); with_reducible assumption))); done))   | ((with_reducible apply R.ne2); focus ((repeat' (first | with_reducible assumption | with_reducible apply hU | ((with_reducible apply SqT.of); with_reducible assumption) | ((with_reducible apply same_seqT); with_reducible assumption) | ((with_reducible apply kp_seqT); with_reducible assumption) | ((with_reducible apply Dw.same); with_reducible assumption))); done))   | ((with_reducible apply R.eq4); focus ((repeat' (first | with_reducible assumption | with_reducible apply hU | ((with_reducible apply SqT.of); with_reducible assumption) | ((with_reducible apply same_seqT); with_reducible assumption) | ((with_reducible apply kp_seqT); with_reducible assumption) | ((with_reducible apply Dw.same); with_reducible assumption))); done))   | ((with_reducible apply R.eq3); focus ((repeat' (first | with_reducible assumption | with_reducible apply hU | ((with_reducible apply SqT.of); with_reducible assumption) | ((with_reducible apply same_seqT); with_reducible assumption) | ((with_reducible apply kp_seqT); with_reducible assumption) | ((with_reducible apply Dw.same); with_reducible assumption))); done))   | ((with_reducible apply R.eq2); focus ((repeat' (first | with_reducible assumption | with_reducible apply hU | ((with_reducible apply SqT.of); with_reducible assumption) | ((with_reducible apply same_seqT); with_reducible assumption) | ((with_reducible apply kp_seqT); with_reducible assumption) | ((with_reducible apply Dw.same); with_reducible assumption))); done))   | with_reducible apply uLawNext   | with_reducible apply uLawWide   | with_reducible apply uLawChange   | with_reducible apply uMultiply   | with_reducible apply uDeterminant   | with_reducible apply uApply   | with_reducible apply uNegative   | with_reducible apply uLawAt   | with_reducible apply uLawMul   | with_reducible apply uInverse   | ((with_reducible apply R.nw); intro HN tn sn ht)   | with_reducible apply iteT   | with_reducible apply iteF   | ((with_reducible apply SqT.of); with_reducible assumption)   | ((with_reducible apply SqL.of); with_reducible assumption)   | ((with_reducible apply same_seqT); with_reducible assumption)   | ((with_reducible apply sameB); with_reducible assumption)   | ((with_reducible apply same_at); with_reducible assumption)   | ((with_reducible apply kp_seqT); with_reducible assumption)   | ((with_reducible apply Same.seq); with_reducible assumption)   | ((with_reducible apply Kp.seqL); with_reducible assumption)   | ((with_reducible apply fresh_ne); with_reducible assumption)   | ((with_reducible apply Dw.same); with_reducible assumption)   | ((with_reducible apply R.isEq); exact eq_true (by first | decide | omega))   | ((with_reducible apply R.isLt); first | decide | omega)   | ((with_reducible apply R.isLtI); first | decide | omega)   | ((with_reducible apply R.isLeI); first | decide | omega)   | ((with_reducible apply R.cdiv); exact rfl)   | ((with_reducible apply R.cpow); exact rfl)   | with_reducible apply hU   | ((with_reducible apply wayNF); first | exact rfl | exact ⟨rfl, rfl⟩ | exact ⟨rfl, rfl, rfl⟩ | exact ⟨rfl, rfl, rfl, rfl⟩)   | with_reducible apply R.forE   | with_reducible apply R.rng1   | with_reducible apply R.rng2   | with_reducible apply R.rg1   | with_reducible apply R.rg2   | with_reducible apply R.lcE   | with_reducible apply R.itup   | with_reducible apply R.ilst   ))), by (apply bdm; (repeat' (first   | with_reducible apply R.var   | ((with_reducible apply R.isEq); exact rfl)   | with_reducible apply R.op   | with_reducible apply R.i2   | with_reducible apply R.i0   | with_reducible apply R.con   | with_reducible apply R.cons   | with_reducible apply R.nil   | with_reducible apply R.gcons   | with_reducible apply R.gname   | ((with_reducible apply R.ixT); (focus ((repeat' (first | with_reducible assumption | with_reducible apply hU | ((with_reducible apply SqT.of); with_reducible assumption) | ((with_reducible apply same_seqT); with_reducible assumption) | ((with_reducible apply kp_seqT); with_reducible assumption) | ((with_reducible apply Dw.same); with_reducible assumption))); done)); exact rfl)   | ((with_reducible apply R.ixL); (focus ((repeat' (first | with_reducible assumption | ((with_reducible apply SqL.of); with_reducible assumption) | ((with_reducible apply Same.seq); with_reducible assumption) | ((with_reducible apply Kp.seqL); with_reducible assumption) | ((with_reducible apply fresh_ne); with_reducible assumption) | ((with_reducible apply Dw.same); with_reducible assumption))); done)); exact rfl)   | with_reducible assumption   | with_reducible apply Bd.mulW   | with_reducible apply Bd.mul   | with_reducible apply Bd.add   | with_reducible apply Bd.sub   | ((with_reducible apply Bd.l8); exact eq_true (by decide))   | ((with_reducible apply Bd.lit); exact eq_true (by decide))   | with_reducible apply Bd.neg   | with_reducible apply Bd.div   | ((with_reducible apply Bd.om); omega)   | ((with_reducible apply R.isLe); first | decide | omega)   | with_reducible apply R.un   | with_reducible apply R.u1   | with_reducible apply R.tup   | with_reducible apply R.lst   | with_reducible apply R.call   | with_reducible apply R.callB   | with_reducible apply R.gtup   | with_reducible apply R.gnil   | with_reducible apply R.seq   | with_reducible apply R.asg   | with_reducible apply R.ret   | with_reducible apply R.next   | with_reducible apply R.drop   | with_reducible apply R.par   | with_reducible apply R.par2   | with_reducible apply R.ifs   | with_reducible apply R.tif   | with_reducible apply R.test   | with_reducible apply R.tb'   | with_reducible apply R.isbl   | with_reducible apply R.cmp   | with_reducible apply R.t2i   | with_reducible apply R.intp   | with_reducible apply R.and   | with_reducible apply R.or   | with_reducible apply R.not   | with_reducible apply R.andV   | with_reducible apply R.orV   | with_reducible apply R.notV   | with_reducible apply R.chain   | with_reducible apply R.tupL   | with_reducible apply R.lstL   | with_reducible apply R.cat   | with_reducible apply R.isiT   | with_reducible apply R.isiTup   | with_reducible apply R.isiLst   | with_reducible apply R.nwT   | with_reducible apply R.nwL   | ((with_reducible apply R.mt); intro HN tn sn nn ht)   | ((with_reducible apply R.ml); intro HN tn sn nn ht)   | ((with_reducible apply R.ne4); focus ((repeat' (first | with_reducible assumption | with_reducible apply hU | ((with_reducible apply SqT.of); with_reducible assumption) | ((with_reducible apply same_seqT); with_reducible assumption) | ((with_reducible apply kp_seqT); with_reducible assumption) | ((with_reducible apply Dw.same); with_reducible assumption))); done))   | ((with_reducible apply R.ne3); focus ((repeat' (first | with_reducible assumption | with_reducible apply hU | ((with_reducible apply SqT.of); with_reducible assumption) | ((with_reducible apply same_seqT); with_reducible assumption) | ((with_reducible apply kp_seqT); with_reducible assumption) | ((with_reducible apply Dw.same); with_reducible assumption))); done))   | ((with_reducible apply R.ne2); focus ((repeat' (first | with_reducible assumption | with_reducible apply hU | ((with_reducible apply SqT.of); with_reducible assumption) | ((with_reducible apply same_seqT); with_reducible assumption) | ((with_reducible apply kp_seqT); with_reducible assumption) | ((with_reducible apply Dw.same); with_reducible assumption))); done))   | ((with_reducible apply R.eq4); focus ((repeat' (first | with_reducible assumption | with_reducible apply hU | ((with_reducible apply SqT.of); with_reducible assumption) | ((with_reducible apply same_seqT); with_reducible assumption) | ((with_reducible apply kp_seqT); with_reducible assumption) | ((with_reducible apply Dw.same); with_reducible assumption))); done))   | ((with_reducible apply R.eq3); focus ((repeat' (first | with_reducible assumption | with_reducible apply hU | ((with_reducible apply SqT.of); with_reducible assumption) | ((with_reducible apply same_seqT); with_reducible assumption) | ((with_reducible apply kp_seqT); with_reducible assumption) | ((with_reducible apply Dw.same); with_reducible assumption))); done))   | ((with_reducible apply R.eq2); focus ((repeat' (first | with_reducible assumption | with_reducible apply hU | ((with_reducible apply SqT.of); with_reducible assumption) | ((with_reducible apply same_seqT); with_reducible assumption) | ((with_reducible apply kp_seqT); with_reducible assumption) | ((with_reducible apply Dw.same); with_reducible assumption))); done))   | with_reducible apply uLawNext   | with_reducible apply uLawWide   | with_reducible apply uLawChange   | with_reducible apply uMultiply   | with_reducible apply uDeterminant   | with_reducible apply uApply   | with_reducible apply uNegative   | with_reducible apply uLawAt   | with_reducible apply uLawMul   | with_reducible apply uInverse   | ((with_reducible apply R.nw); intro HN tn sn ht)   | with_reducible apply iteT   | with_reducible apply iteF   | ((with_reducible apply SqT.of); with_reducible assumption)   | ((with_reducible apply SqL.of); with_reducible assumption)   | ((with_reducible apply same_seqT); with_reducible assumption)   | ((with_reducible apply sameB); with_reducible assumption)   | ((with_reducible apply same_at); with_reducible assumption)   | ((with_reducible apply kp_seqT); with_reducible assumption)   | ((with_reducible apply Same.seq); with_reducible assumption)   | ((with_reducible apply Kp.seqL); with_reducible assumption)   | ((with_reducible apply fresh_ne); with_reducible assumption)   | ((with_reducible apply Dw.same); with_reducible assumption)   | ((with_reducible apply R.isEq); exact eq_true (by first | decide | omega))   | ((with_reducible apply R.isLt); first | decide | omega)   | ((with_reducible apply R.isLtI); first | decide | omega)   | ((with_reducible apply R.isLeI); first | decide | omega)   | ((with_reducible apply R.cdiv); exact rfl)   | ((with_reducible apply R.cpow); exact rfl)   | with_reducible apply hU   | ((with_reducible apply wayNF); first | exact rfl | exact ⟨rfl, rfl⟩ | exact ⟨rfl, rfl, rfl⟩ | exact ⟨rfl, rfl, rfl, rfl⟩)   | with_reducible apply R.forE   | with_reducible apply R.rng1   | with_reducible apply R.rng2   | with_reducible apply R.rg1   | with_reducible apply R.rg2   | with_reducible apply R.lcE   | with_reducible apply R.itup   | with_reducible apply R.ilst   ))), by (apply bdm; (repeat' (first   | with_reducible apply R.var   | ((with_reducible apply R.isEq); exact rfl)   | with_reducible apply R.op   | with_reducible apply R.i2   | with_reducible apply R.i0   | with_reducible apply R.con   | with_reducible apply R.cons   | with_reducible apply R.nil   | with_reducible apply R.gcons   | with_reducible apply R.gname   | ((with_reducible apply R.ixT); (focus ((repeat' (first | with_reducible assumption | with_reducible apply hU | ((with_reducible apply SqT.of); with_reducible assumption) | ((with_reducible apply same_seqT); with_reducible assumption) | ((with_reducible apply kp_seqT); with_reducible assumption) | ((with_reducible apply Dw.same); with_reducible assumption))); done)); exact rfl)   | ((with_reducible apply R.ixL); (focus ((repeat' (first | with_reducible assumption | ((with_reducible apply SqL.of); with_reducible assumption) | ((with_reducible apply Same.seq); with_reducible assumption) | ((with_reducible apply Kp.seqL); with_reducible assumption) | ((with_reducible apply fresh_ne); with_reducible assumption) | ((with_reducible apply Dw.same); with_reducible assumption))); done)); exact rfl)   | with_reducible assumption   | with_reducible apply Bd.mulW   | with_reducible apply Bd.mul   | with_reducible apply Bd.add   | with_reducible apply Bd.sub   | ((with_reducible apply Bd.l8); exact eq_true (by decide))   | ((with_reducible apply Bd.lit); exact eq_true (by decide))   | with_reducible apply Bd.neg   | with_reducible apply Bd.div   | ((with_reducible apply Bd.om); omega)   | ((with_reducible apply R.isLe); first | decide | omega)   | with_reducible apply R.un   | with_reducible apply R.u1   | with_reducible apply R.tup   | with_reducible apply R.lst   | with_reducible apply R.call   | with_reducible apply R.callB   | with_reducible apply R.gtup   | with_reducible apply R.gnil   | with_reducible apply R.seq   | with_reducible apply R.asg   | with_reducible apply R.ret   | with_reducible apply R.next   | with_reducible apply R.drop   | with_reducible apply R.par   | with_reducible apply R.par2   | with_reducible apply R.ifs   | with_reducible apply R.tif   | with_reducible apply R.test   | with_reducible apply R.tb'   | with_reducible apply R.isbl   | with_reducible apply R.cmp   | with_reducible apply R.t2i   | with_reducible apply R.intp   | with_reducible apply R.and   | with_reducible apply R.or   | with_reducible apply R.not   | with_reducible apply R.andV   | with_reducible apply R.orV   | with_reducible apply R.notV   | with_reducible apply R.chain   | with_reducible apply R.tupL   | with_reducible apply R.lstL   | with_reducible apply R.cat   | with_reducible apply R.isiT   | with_reducible apply R.isiTup   | with_reducible apply R.isiLst   | with_reducible apply R.nwT   | with_reducible apply R.nwL   | ((with_reducible apply R.mt); intro HN tn sn nn ht)   | ((with_reducible apply R.ml); intro HN tn sn nn ht)   | ((with_reducible apply R.ne4); focus ((repeat' (first | with_reducible assumption | with_reducible apply hU | ((with_reducible apply SqT.of); with_reducible assumption) | ((with_reducible apply same_seqT); with_reducible assumption) | ((with_reducible apply kp_seqT); with_reducible assumption) | ((with_reducible apply Dw.same); with_reducible assumption))); done))   | ((with_reducible apply R.ne3); focus ((repeat' (first | with_reducible assumption | with_reducible apply hU | ((with_reducible apply SqT.of); with_reducible assumption) | ((with_reducible apply same_seqT); with_reducible assumption) | ((with_reducible apply kp_seqT); with_reducible assumption) | ((with_reducible apply Dw.same); with_reducible assumption))); done))   | ((with_reducible apply R.ne2); focus ((repeat' (first | with_reducible assumption | with_reducible apply hU | ((with_reducible apply SqT.of); with_reducible assumption) | ((with_reducible apply same_seqT); with_reducible assumption) | ((with_reducible apply kp_seqT); with_reducible assumption) | ((with_reducible apply Dw.same); with_reducible assumption))); done))   | ((with_reducible apply R.eq4); focus ((repeat' (first | with_reducible assumption | with_reducible apply hU | ((with_reducible apply SqT.of); with_reducible assumption) | ((with_reducible apply same_seqT); with_reducible assumption) | ((with_reducible apply kp_seqT); with_reducible assumption) | ((with_reducible apply Dw.same); with_reducible assumption))); done))   | ((with_reducible apply R.eq3); focus ((repeat' (first | with_reducible assumption | with_reducible apply hU | ((with_reducible apply SqT.of); with_reducible assumption) | ((with_reducible apply same_seqT); with_reducible assumption) | ((with_reducible apply kp_seqT); with_reducible assumption) | ((with_reducible apply Dw.same); with_reducible assumption))); done))   | ((with_reducible apply R.eq2); focus ((repeat' (first | with_reducible assumption | with_reducible apply hU | ((with_reducible apply SqT.of); with_reducible assumption) | ((with_reducible apply same_seqT); with_reducible assumption) | ((with_reducible apply kp_seqT); with_reducible assumption) | ((with_reducible apply Dw.same); with_reducible assumption))); done))   | with_reducible apply uLawNext   | with_reducible apply uLawWide   | with_reducible apply uLawChange   | with_reducible apply uMultiply   | with_reducible apply uDeterminant   | with_reducible apply uApply   | with_reducible apply uNegative   | with_reducible apply uLawAt   | with_reducible apply uLawMul   | with_reducible apply uInverse   | ((with_reducible apply R.nw); intro HN tn sn ht)   | with_reducible apply iteT   | with_reducible apply iteF   | ((with_reducible apply SqT.of); with_reducible assumption)   | ((with_reducible apply SqL.of); with_reducible assumption)   | ((with_reducible apply same_seqT); with_reducible assumption)   | ((with_reducible apply sameB); with_reducible assumption)   | ((with_reducible apply same_at); with_reducible assumption)   | ((with_reducible apply kp_seqT); with_reducible assumption)   | ((with_reducible apply Same.seq); with_reducible assumption)   | ((with_reducible apply Kp.seqL); with_reducible assumption)   | ((with_reducible apply fresh_ne); with_reducible assumption)   | ((with_reducible apply Dw.same); with_reducible assumption)   | ((with_reducible apply R.isEq); exact eq_true (by first | decide | omega))   | ((with_reducible apply R.isLt); first | decide | omega)   | ((with_reducible apply R.isLtI); first | decide | omega)   | ((with_reducible apply R.isLeI); first | decide | omega)   | ((with_reducible apply R.cdiv); exact rfl)   | ((with_reducible apply R.cpow); exact rfl)   | with_reducible apply hU   | ((with_reducible apply wayNF); first | exact rfl | exact ⟨rfl, rfl⟩ | exact ⟨rfl, rfl, rfl⟩ | exact ⟨rfl, rfl, rfl, rfl⟩)   | with_reducible apply R.forE   | with_reducible apply R.rng1   | with_reducible apply R.rng2   | with_reducible apply R.rg1   | with_reducible apply R.rg2   | with_reducible apply R.lcE   | with_reducible apply R.itup   | with_reducible apply R.ilst   )))⟩
      · skip
        repeat' (first
          | with_reducible apply R.var
          | ((with_reducible apply R.isEq); exact rfl)
          | with_reducible apply R.op
          | with_reducible apply R.i2
          | with_reducible apply R.i0
          | with_reducible apply R.con
          | with_reducible apply R.cons
          | with_reducible apply R.nil
          | with_reducible apply R.gcons
          | with_reducible apply R.gname
          | ((with_reducible apply R.ixT); (focus ((repeat' (first | with_reducible assumption | with_reducible apply hU | ((with_reducible apply SqT.of); with_reducible assumption) | ((with_reducible apply same_seqT); with_reducible assumption) | ((with_reducible apply kp_seqT); with_reducible assumption) | ((with_reducible apply Dw.same); with_reducible assumption))); done)); exact rfl)
          | ((with_reducible apply R.ixL); (focus ((repeat' (first | with_reducible assumption | ((with_reducible apply SqL.of); with_reducible assumption) | ((with_reducible apply Same.seq); with_reducible assumption) | ((with_reducible apply Kp.seqL); with_reducible assumption) | ((with_reducible apply fresh_ne); with_reducible assumption) | ((with_reducible apply Dw.same); with_reducible assumption))); done)); exact rfl)
          | with_reducible assumption
          | with_reducible apply Bd.mulW
          | with_reducible apply Bd.mul
          | with_reducible apply Bd.add
          | with_reducible apply Bd.sub
          | ((with_reducible apply Bd.l8); exact eq_true (by decide))
          | ((with_reducible apply Bd.lit); exact eq_true (by decide))
          | with_reducible apply Bd.neg
          | with_reducible apply Bd.div
          | ((with_reducible apply Bd.om); omega)
          | ((with_reducible apply R.isLe); first | decide | omega)
          | with_reducible apply R.un
          | with_reducible apply R.u1
          | with_reducible apply R.tup
          | with_reducible apply R.lst
          | with_reducible apply R.call
          | with_reducible apply R.callB
          | with_reducible apply R.gtup
          | with_reducible apply R.gnil
          | with_reducible apply R.seq
          | with_reducible apply R.asg
          | with_reducible apply R.ret
          | with_reducible apply R.next
          | with_reducible apply R.drop
          | with_reducible apply R.par
          | with_reducible apply R.par2
          | with_reducible apply R.ifs
          | with_reducible apply R.tif
          | with_reducible apply R.test
          | with_reducible apply R.tb'
          | with_reducible apply R.isbl
          | with_reducible apply R.cmp
          | with_reducible apply R.t2i
          | with_reducible apply R.intp
          | with_reducible apply R.and
          | with_reducible apply R.or
          | with_reducible apply R.not
          | with_reducible apply R.andV
          | with_reducible apply R.orV
          | with_reducible apply R.notV
          | with_reducible apply R.chain
          | with_reducible apply R.tupL
          | with_reducible apply R.lstL
          | with_reducible apply R.cat
          | with_reducible apply R.isiT
          | with_reducible apply R.isiTup
          | with_reducible apply R.isiLst
          | with_reducible apply R.nwT
          | with_reducible apply R.nwL
          | ((with_reducible apply R.mt); intro HN tn sn nn ht)
          | ((with_reducible apply R.ml); intro HN tn sn nn ht)
          | ((with_reducible apply R.ne4); focus ((repeat' (first | with_reducible assumption | with_reducible apply hU | ((with_reducible apply SqT.of); with_reducible assumption) | ((with_reducible apply same_seqT); with_reducible assumption) | ((with_reducible apply kp_seqT); with_reducible assumption) | ((with_reducible apply Dw.same); with_reducible assumption))); done))
          | ((with_reducible apply R.ne3); focus ((repeat' (first | with_reducible assumption | with_reducible apply hU | ((with_reducible apply SqT.of); with_reducible assumption) | ((with_reducible apply same_seqT); with_reducible assumption) | ((with_reducible apply kp_seqT); with_reducible assumption) | ((with_reducible apply Dw.same); with_reducible assumption))); done))
          | ((with_reducible apply R.ne2); focus ((repeat' (first | with_reducible assumption | with_reducible apply hU | ((with_reducible apply SqT.of); with_reducible assumption) | ((with_reducible apply same_seqT); with_reducible assumption) | ((with_reducible apply kp_seqT); with_reducible assumption) | ((with_reducible apply Dw.same); with_reducible assumption))); done))
          | ((with_reducible apply R.eq4); focus ((repeat' (first | with_reducible assumption | with_reducible apply hU | ((with_reducible apply SqT.of); with_reducible assumption) | ((with_reducible apply same_seqT); with_reducible assumption) | ((with_reducible apply kp_seqT); with_reducible assumption) | ((with_reducible apply Dw.same); with_reducible assumption))); done))
          | ((with_reducible apply R.eq3); focus ((repeat' (first | with_reducible assumption | with_reducible apply hU | ((with_reducible apply SqT.of); with_reducible assumption) | ((with_reducible apply same_seqT); with_reducible assumption) | ((with_reducible apply kp_seqT); with_reducible assumption) | ((with_reducible apply Dw.same); with_reducible assumption))); done))
          | ((with_reducible apply R.eq2); focus ((repeat' (first | with_reducible assumption | with_reducible apply hU | ((with_reducible apply SqT.of); with_reducible assumption) | ((with_reducible apply same_seqT); with_reducible assumption) | ((with_reducible apply kp_seqT); with_reducible assumption) | ((with_reducible apply Dw.same); with_reducible assumption))); done))
          | with_reducible apply uLawNext
          | with_reducible apply uLawWide
          | with_reducible apply uLawChange
          | with_reducible apply uMultiply
          | with_reducible apply uDeterminant
          | with_reducible apply uApply
          | with_reducible apply uNegative
          | with_reducible apply uLawAt
          | with_reducible apply uLawMul
          | with_reducible apply uInverse
          | ((with_reducible apply R.nw); intro HN tn sn ht)
          | with_reducible apply iteT
          | with_reducible apply iteF
          | ((with_reducible apply SqT.of); with_reducible assumption)
          | ((with_reducible apply SqL.of); with_reducible assumption)
          | ((with_reducible apply same_seqT); with_reducible assumption)
          | ((with_reducible apply sameB); with_reducible assumption)
          | ((with_reducible apply same_at); with_reducible assumption)
          | ((with_reducible apply kp_seqT); with_reducible assumption)
          | ((with_reducible apply Same.seq); with_reducible assumption)
          | ((with_reducible apply Kp.seqL); with_reducible assumption)
          | ((with_reducible apply fresh_ne); with_reducible assumption)
          | ((with_reducible apply Dw.same); with_reducible assumption)
          | ((with_reducible apply R.isEq); exact eq_true (by first | decide | omega))
          | ((with_reducible apply R.isLt); first | decide | omega)
          | ((with_reducible apply R.isLtI); first | decide | omega)
          | ((with_reducible apply R.isLeI); first | decide | omega)
          | ((with_reducible apply R.cdiv); exact rfl)
          | ((with_reducible apply R.cpow); exact rfl)
          | with_reducible apply hU
          | ((with_reducible apply wayNF); first | exact rfl | exact ⟨rfl, rfl⟩ | exact ⟨rfl, rfl, rfl⟩ | exact ⟨rfl, rfl, rfl, rfl⟩)
          | with_reducible apply R.forE
          | with_reducible apply R.rng1
          | with_reducible apply R.rng2
          | with_reducible apply R.rg1
          | with_reducible apply R.rg2
          | with_reducible apply R.lcE
          | with_reducible apply R.itup
          | with_reducible apply R.ilst
          )
        refine ⟨_, _, _, _, _, _, _, _, _, _, _, _, _, rfl, d8.mono (by decide), by (repeat' (first   | with_reducible apply R.var   | ((with_reducible apply R.isEq); exact rfl)   | with_reducible apply R.op   | with_reducible apply R.i2   | with_reducible apply R.i0   | with_reducible apply R.con   | with_reducible apply R.cons   | with_reducible apply R.nil   | with_reducible apply R.gcons   | with_reducible apply R.gname   | ((with_reducible apply R.ixT); (focus ((repeat' (first | with_reducible assumption | with_reducible apply hU | ((with_reducible apply SqT.of); with_reducible assumption) | ((with_reducible apply same_seqT); with_reducible assumption) | ((with_reducible apply kp_seqT); with_reducible assumption) | ((with_reducible apply Dw.same); with_reducible assumption))); done)); exact rfl)   | ((with_reducible apply R.ixL); (focus ((repeat' (first | with_reducible assumption | ((with_reducible apply SqL.of); with_reducible assumption) | ((with_reducible apply Same.seq); with_reducible assumption) | ((with_reducible apply Kp.seqL); with_reducible assumption) | ((with_reducible apply fresh_ne); with_reducible assumption) | ((with_reducible apply Dw.same); with_reducible assumption))); done)); exact rfl)   | with_reducible assumption   | with_reducible apply Bd.mulW   | with_reducible apply Bd.mul   | with_reducible apply Bd.add   | with_reducible apply Bd.sub   | ((with_reducible apply Bd.l8); exact eq_true (by decide))   | ((with_reducible apply Bd.lit); exact eq_true (by decide))   | with_reducible apply Bd.neg   | with_reducible apply Bd.div   | ((with_reducible apply Bd.om); omega)   | ((with_reducible apply R.isLe); first | decide | omega)   | with_reducible apply R.un   | with_reducible apply R.u1   | with_reducible apply R.tup   | with_reducible apply R.lst   | with_reducible apply R.call   | with_reducible apply R.callB   | with_reducible apply R.gtup   | with_reducible apply R.gnil   | with_reducible apply R.seq   | with_reducible apply R.asg   | with_reducible apply R.ret   | with_reducible apply R.next   | with_reducible apply R.drop   | with_reducible apply R.par   | with_reducible apply R.par2   | with_reducible apply R.ifs   | with_reducible apply R.tif   | with_reducible apply R.test   | with_reducible apply R.tb'   | with_reducible apply R.isbl   | with_reducible apply R.cmp   | with_reducible apply R.t2i   | with_reducible apply R.intp   | with_reducible apply R.and   | with_reducible apply R.or   | with_reducible apply R.not   | with_reducible apply R.andV   | with_reducible apply R.orV   | with_reducible apply R.notV   | with_reducible apply R.chain   | with_reducible apply R.tupL   | with_reducible apply R.lstL   | with_reducible apply R.cat   | with_reducible apply R.isiT   | with_reducible apply R.isiTup   | with_reducible apply R.isiLst   | with_reducible apply R.nwT   | with_reducible apply R.nwL   | ((with_reducible apply R.mt); intro HN tn sn nn ht)   | ((with_reducible apply R.ml); intro HN tn sn nn ht)   | ((with_reducible apply R.ne4); focus ((repeat' (first | with_reducible assumption | with_reducible apply hU | ((with_reducible apply SqT.of); with_reducible assumption) | ((with_reducible apply same_seqT); with_reducible assumption) | ((with_reducible apply kp_seqT); with_reducible assumption) | ((with_reducible apply Dw.same); with_reducible assumption))); done))   | ((with_reducible apply R.ne3); focus ((repeat' (first | with_reducible assumption | with_reducible apply hU | ((with_reducible apply SqT.of); with_reducible assumption) | ((with_reducible apply same_seqT); with_reducible assumption) | ((with_reducible apply kp_seqT); with_reducible assumption) | ((with_reducible apply Dw.same); with_reducible assumption))); done))   | ((with_reducible apply R.ne2); focus ((repeat' (first | with_reducible assumption | with_reducible apply hU | ((with_reducible apply SqT.of); with_reducible assumption) | ((with_reducible apply same_seqT); with_reducible assumption) | ((with_reducible apply kp_seqT); with_reducible assumption) | ((with_reducible apply Dw.same); with_reducible assumption))); done))   | ((with_reducible apply R.eq4); focus ((repeat' (first | with_reducible assumption | with_reducible apply hU | ((with_reducible apply SqT.of); with_reducible assumption) | ((with_reducible apply same_seqT); with_reducible assumption) | ((with_reducible apply kp_seqT); with_reducible assumption) | ((with_reducible apply Dw.same); with_reducible assumption))); done))   | ((with_reducible apply R.eq3); focus ((repeat' (first | with_reducible assumption | with_reducible apply hU | ((with_reducible apply SqT.of); with_reducible assumption) | ((with_reducible apply same_seqT); with_reducible assumption) | ((with_reducible apply kp_seqT); with_reducible assumption) | ((with_reducible apply Dw.same); with_reducible assumption))); done))   | ((with_reducible apply R.eq2); focus ((repeat' (first | with_reducible assumption | with_reducible apply hU | ((with_reducible apply SqT.of); with_reducible assumption) | ((with_reducible apply same_seqT); with_reducible assumption) | ((with_reducible apply kp_seqT); with_reducible assumption) | ((with_reducible apply Dw.same); with_reducible assumption))); done))   | with_reducible apply uLawNext   | with_reducible apply uLawWide   | with_reducible apply uLawChange   | with_reducible apply uMultiply   | with_reducible apply uDeterminant   | with_reducible apply uApply   | with_reducible apply uNegative   | with_reducible apply uLawAt   | with_reducible apply uLawMul   | with_reducible apply uInverse   | ((with_reducible apply R.nw); intro HN tn sn ht)   | with_reducible apply iteT   | with_reducible apply iteF   | ((with_reducible apply SqT.of); with_reducible assumption)   | ((with_reducible apply SqL.of); with_reducible assumption)   | ((with_reducible apply same_seqT); with_reducible assumption)   | ((with_reducible apply sameB); with_reducible assumption)   | ((with_reducible apply same_at); with_reducible assumption)   | ((with_reducible apply kp_seqT); with_reducible assumption)   | ((with_reducible apply Same.seq); with_reducible assumption)   | ((with_reducible apply Kp.seqL); with_reducible assumption)   | ((with_reducible apply fresh_ne); with_reducible assumption)   | ((with_reducible apply Dw.same); with_reducible assumption)   | ((with_reducible apply R.isEq); exact eq_true (by first | decide | omega))   | ((with_reducible apply R.isLt); first | decide | omega)   | ((with_reducible apply R.isLtI); first | decide | omega)   | ((with_reducible apply R.isLeI); first | decide | omega)   | ((with_reducible apply R.cdiv); exact rfl)   | ((with_reducible apply R.cpow); exact rfl)   | with_reducible apply hU   | ((with_reducible apply wayNF); first | exact rfl | exact ⟨rfl, rfl⟩ | exact ⟨rfl, rfl, rfl⟩ | exact ⟨rfl, rfl, rfl, rfl⟩)   | with_reducible apply R.forE   | with_reducible apply R.rng1   | with_reducible apply R.rng2   | with_reducible apply R.rg1   | with_reducible apply R.rg2   | with_reducible apply R.lcE   | with_reducible apply R.itup   | with_reducible apply R.ilst   )), .inl l7.1, bg1.mono (by decide), bg2.mono (by decide), bg3.mono (by decide), bg4.mono (by decide)⟩
    clear hS hD hD2 hD3
    obtain ⟨x2, x8, x9, x10, x11, x12, a3, a4, b, c1, c2, c3, c4, rfl, d8, sb, hdet, bb1, bb2, bb3, bb4⟩ := hMid
    repeat' (first
      | with_reducible apply R.var
      | ((with_reducible apply R.isEq); exact rfl)
      | with_reducible apply R.op
      | with_reducible apply R.i2
      | with_reducible apply R.i0
      | with_reducible apply R.con
      | with_reducible apply R.cons
      | with_reducible apply R.nil
      | with_reducible apply R.gcons
      | with_reducible apply R.gname
      | ((with_reducible apply R.ixT); (focus ((repeat' (first | with_reducible assumption | with_reducible apply hU | ((with_reducible apply SqT.of); with_reducible assumption) | ((with_reducible apply same_seqT); with_reducible assumption) | ((with_reducible apply kp_seqT); with_reducible assumption) | ((with_reducible apply Dw.same); with_reducible assumption))); done)); exact rfl)
      | ((with_reducible apply R.ixL); (focus ((repeat' (first | with_reducible assumption | ((with_reducible apply SqL.of); with_reducible assumption) | ((with_reducible apply Same.seq); with_reducible assumption) | ((with_reducible apply Kp.seqL); with_reducible assumption) | ((with_reducible apply fresh_ne); with_reducible assumption) | ((with_reducible apply Dw.same); with_reducible assumption))); done)); exact rfl)
      | with_reducible assumption
      | with_reducible apply Bd.mulW
      | with_reducible apply Bd.mul
      | with_reducible apply Bd.add
      | with_reducible apply Bd.sub
      | ((with_reducible apply Bd.l8); exact eq_true (by decide))
      | ((with_reducible apply Bd.lit); exact eq_true (by decide))
      | with_reducible apply Bd.neg
      | with_reducible apply Bd.div
      | ((with_reducible apply Bd.om); omega)
      | ((with_reducible apply R.isLe); first | decide | omega)
      | with_reducible apply R.un
      | with_reducible apply R.u1
      | with_reducible apply R.tup
      | with_reducible apply R.lst
      | with_reducible apply R.call
      | with_reducible apply R.callB
      | with_reducible apply R.gtup
      | with_reducible apply R.gnil
      | with_reducible apply R.seq
      | with_reducible apply R.asg
      | with_reducible apply R.ret
      | with_reducible apply R.next
      | with_reducible apply R.drop
      | with_reducible apply R.par
      | with_reducible apply R.par2
      | with_reducible apply R.ifs
      | with_reducible apply R.tif
      | with_reducible apply R.test
      | with_reducible apply R.tb'
      | with_reducible apply R.isbl
      | with_reducible apply R.cmp
      | with_reducible apply R.t2i
      | with_reducible apply R.intp
      | with_reducible apply R.and
      | with_reducible apply R.or
      | with_reducible apply R.not
      | with_reducible apply R.andV
      | with_reducible apply R.orV
      | with_reducible apply R.notV
      | with_reducible apply R.chain
      | with_reducible apply R.tupL
      | with_reducible apply R.lstL
      | with_reducible apply R.cat
      | with_reducible apply R.isiT
      | with_reducible apply R.isiTup
      | with_reducible apply R.isiLst
      | with_reducible apply R.nwT
      | with_reducible apply R.nwL
      | ((with_reducible apply R.mt); intro HN tn sn nn ht)
      | ((with_reducible apply R.ml); intro HN tn sn nn ht)
      | ((with_reducible apply R.ne4); focus ((repeat' (first | with_reducible assumption | with_reducible apply hU | ((with_reducible apply SqT.of); with_reducible assumption) | ((with_reducible apply same_seqT); with_reducible assumption) | ((with_reducible apply kp_seqT); with_reducible assumption) | ((with_reducible apply Dw.same); with_reducible assumption))); done))
      | ((with_reducible apply R.ne3); focus ((repeat' (first | with_reducible assumption | with_reducible apply hU | ((with_reducible apply SqT.of); with_reducible assumption) | ((with_reducible apply same_seqT); with_reducible assumption) | ((with_reducible apply kp_seqT); with_reducible assumption) | ((with_reducible apply Dw.same); with_reducible assumption))); done))
      | ((with_reducible apply R.ne2); focus ((repeat' (first | with_reducible assumption | with_reducible apply hU | ((with_reducible apply SqT.of); with_reducible assumption) | ((with_reducible apply same_seqT); with_reducible assumption) | ((with_reducible apply kp_seqT); with_reducible assumption) | ((with_reducible apply Dw.same); with_reducible assumption))); done))
      | ((with_reducible apply R.eq4); focus ((repeat' (first | with_reducible assumption | with_reducible apply hU | ((with_reducible apply SqT.of); with_reducible assumption) | ((with_reducible apply same_seqT); with_reducible assumption) | ((with_reducible apply kp_seqT); with_reducible assumption) | ((with_reducible apply Dw.same); with_reducible assumption))); done))
      | ((with_reducible apply R.eq3); focus ((repeat' (first | with_reducible assumption | with_reducible apply hU | ((with_reducible apply SqT.of); with_reducible assumption) | ((with_reducible apply same_seqT); with_reducible assumption) | ((with_reducible apply kp_seqT); with_reducible assumption) | ((with_reducible apply Dw.same); with_reducible assumption))); done))
      | ((with_reducible apply R.eq2); focus ((repeat' (first | with_reducible assumption | with_reducible apply hU | ((with_reducible apply SqT.of); with_reducible assumption) | ((with_reducible apply same_seqT); with_reducible assumption) | ((with_reducible apply kp_seqT); with_reducible assumption) | ((with_reducible apply Dw.same); with_reducible assumption))); done))
      | with_reducible apply uLawNext
      | with_reducible apply uLawWide
      | with_reducible apply uLawChange
      | with_reducible apply uMultiply
      | with_reducible apply uDeterminant
      | with_reducible apply uApply
      | with_reducible apply uNegative
      | with_reducible apply uLawAt
      | with_reducible apply uLawMul
      | with_reducible apply uInverse
      | ((with_reducible apply R.nw); intro HN tn sn ht)
      | with_reducible apply iteT
      | with_reducible apply iteF
      | ((with_reducible apply SqT.of); with_reducible assumption)
      | ((with_reducible apply SqL.of); with_reducible assumption)
      | ((with_reducible apply same_seqT); with_reducible assumption)
      | ((with_reducible apply sameB); with_reducible assumption)
      | ((with_reducible apply same_at); with_reducible assumption)
      | ((with_reducible apply kp_seqT); with_reducible assumption)
      | ((with_reducible apply Same.seq); with_reducible assumption)
      | ((with_reducible apply Kp.seqL); with_reducible assumption)
      | ((with_reducible apply fresh_ne); with_reducible assumption)
      | ((with_reducible apply Dw.same); with_reducible assumption)
      | ((with_reducible apply R.isEq); exact eq_true (by first | decide | omega))
      | ((with_reducible apply R.isLt); first | decide | omega)
      | ((with_reducible apply R.isLtI); first | decide | omega)
      | ((with_reducible apply R.isLeI); first | decide | omega)
      | ((with_reducible apply R.cdiv); exact rfl)
      | ((with_reducible apply R.cpow); exact rfl)
      | with_reducible apply hU
      | ((with_reducible apply wayNF); first | exact rfl | exact ⟨rfl, rfl⟩ | exact ⟨rfl, rfl, rfl⟩ | exact ⟨rfl, rfl, rfl, rfl⟩)
      | with_reducible apply R.forE
      | with_reducible apply R.rng1
      | with_reducible apply R.rng2
      | with_reducible apply R.rg1
      | with_reducible apply R.rg2
      | with_reducible apply R.lcE
      | with_reducible apply R.itup
      | with_reducible apply R.ilst
      )
    intro t H9 ta tb d9 k9
    repeat' (first
      | with_reducible apply R.var
      | ((with_reducible apply R.isEq); exact rfl)
      | with_reducible apply R.op
      | with_reducible apply R.i2
      | with_reducible apply R.i0
      | with_reducible apply R.con
      | with_reducible apply R.cons
      | with_reducible apply R.nil
      | with_reducible apply R.gcons
      | with_reducible apply R.gname
      | ((with_reducible apply R.ixT); (focus ((repeat' (first | with_reducible assumption | with_reducible apply hU | ((with_reducible apply SqT.of); with_reducible assumption) | ((with_reducible apply same_seqT); with_reducible assumption) | ((with_reducible apply kp_seqT); with_reducible assumption) | ((with_reducible apply Dw.same); with_reducible assumption))); done)); exact rfl)
      | ((with_reducible apply R.ixL); (focus ((repeat' (first | with_reducible assumption | ((with_reducible apply SqL.of); with_reducible assumption) | ((with_reducible apply Same.seq); with_reducible assumption) | ((with_reducible apply Kp.seqL); with_reducible assumption) | ((with_reducible apply fresh_ne); with_reducible assumption) | ((with_reducible apply Dw.same); with_reducible assumption))); done)); exact rfl)
      | with_reducible assumption
      | with_reducible apply Bd.mulW
      | with_reducible apply Bd.mul
      | with_reducible apply Bd.add
      | with_reducible apply Bd.sub
      | ((with_reducible apply Bd.l8); exact eq_true (by decide))
      | ((with_reducible apply Bd.lit); exact eq_true (by decide))
      | with_reducible apply Bd.neg
      | with_reducible apply Bd.div
      | ((with_reducible apply Bd.om); omega)
      | ((with_reducible apply R.isLe); first | decide | omega)
      | with_reducible apply R.un
      | with_reducible apply R.u1
      | with_reducible apply R.tup
      | with_reducible apply R.lst
      | with_reducible apply R.call
      | with_reducible apply R.callB
      | with_reducible apply R.gtup
      | with_reducible apply R.gnil
      | with_reducible apply R.seq
      | with_reducible apply R.asg
      | with_reducible apply R.ret
      | with_reducible apply R.next
      | with_reducible apply R.drop
      | with_reducible apply R.par
      | with_reducible apply R.par2
      | with_reducible apply R.ifs
      | with_reducible apply R.tif
      | with_reducible apply R.test
      | with_reducible apply R.tb'
      | with_reducible apply R.isbl
      | with_reducible apply R.cmp
      | with_reducible apply R.t2i
      | with_reducible apply R.intp
      | with_reducible apply R.and
      | with_reducible apply R.or
      | with_reducible apply R.not
      | with_reducible apply R.andV
      | with_reducible apply R.orV
      | with_reducible apply R.notV
      | with_reducible apply R.chain
      | with_reducible apply R.tupL
      | with_reducible apply R.lstL
      | with_reducible apply R.cat
      | with_reducible apply R.isiT
      | with_reducible apply R.isiTup
      | with_reducible apply R.isiLst
      | with_reducible apply R.nwT
      | with_reducible apply R.nwL
      | ((with_reducible apply R.mt); intro HN tn sn nn ht)
      | ((with_reducible apply R.ml); intro HN tn sn nn ht)
      | ((with_reducible apply R.ne4); focus ((repeat' (first | with_reducible assumption | with_reducible apply hU | ((with_reducible apply SqT.of); with_reducible assumption) | ((with_reducible apply same_seqT); with_reducible assumption) | ((with_reducible apply kp_seqT); with_reducible assumption) | ((with_reducible apply Dw.same); with_reducible assumption))); done))
      | ((with_reducible apply R.ne3); focus ((repeat' (first | with_reducible assumption | with_reducible apply hU | ((with_reducible apply SqT.of); with_reducible assumption) | ((with_reducible apply same_seqT); with_reducible assumption) | ((with_reducible apply kp_seqT); with_reducible assumption) | ((with_reducible apply Dw.same); with_reducible assumption))); done))
      | ((with_reducible apply R.ne2); focus ((repeat' (first | with_reducible assumption | with_reducible apply hU | ((with_reducible apply SqT.of); with_reducible assumption) | ((with_reducible apply same_seqT); with_reducible assumption) | ((with_reducible apply kp_seqT); with_reducible assumption) | ((with_reducible apply Dw.same); with_reducible assumption))); done))
      | ((with_reducible apply R.eq4); focus ((repeat' (first | with_reducible assumption | with_reducible apply hU | ((with_reducible apply SqT.of); with_reducible assumption) | ((with_reducible apply same_seqT); with_reducible assumption) | ((with_reducible apply kp_seqT); with_reducible assumption) | ((with_reducible apply Dw.same); with_reducible assumption))); done))
      | ((with_reducible apply R.eq3); focus ((repeat' (first | with_reducible assumption | with_reducible apply hU | ((with_reducible apply SqT.of); with_reducible assumption) | ((with_reducible apply same_seqT); with_reducible assumption) | ((with_reducible apply kp_seqT); with_reducible assumption) | ((with_reducible apply Dw.same); with_reducible assumption))); done))
      | ((with_reducible apply R.eq2); focus ((repeat' (first | with_reducible assumption | with_reducible apply hU | ((with_reducible apply SqT.of); with_reducible assumption) | ((with_reducible apply same_seqT); with_reducible assumption) | ((with_reducible apply kp_seqT); with_reducible assumption) | ((with_reducible apply Dw.same); with_reducible assumption))); done))
      | with_reducible apply uLawNext
      | with_reducible apply uLawWide
      | with_reducible apply uLawChange
      | with_reducible apply uMultiply
      | with_reducible apply uDeterminant
      | with_reducible apply uApply
      | with_reducible apply uNegative
      | with_reducible apply uLawAt
      | with_reducible apply uLawMul
      | with_reducible apply uInverse
      | ((with_reducible apply R.nw); intro HN tn sn ht)
      | with_reducible apply iteT
      | with_reducible apply iteF
      | ((with_reducible apply SqT.of); with_reducible assumption)
      | ((with_reducible apply SqL.of); with_reducible assumption)
      | ((with_reducible apply same_seqT); with_reducible assumption)
      | ((with_reducible apply sameB); with_reducible assumption)
      | ((with_reducible apply same_at); with_reducible assumption)
      | ((with_reducible apply kp_seqT); with_reducible assumption)
      | ((with_reducible apply Same.seq); with_reducible assumption)
      | ((with_reducible apply Kp.seqL); with_reducible assumption)
      | ((with_reducible apply fresh_ne); with_reducible assumption)
      | ((with_reducible apply Dw.same); with_reducible assumption)
      | ((with_reducible apply R.isEq); exact eq_true (by first | decide | omega))
      | ((with_reducible apply R.isLt); first | decide | omega)
      | ((with_reducible apply R.isLtI); first | decide | omega)
      | ((with_reducible apply R.isLeI); first | decide | omega)
      | ((with_reducible apply R.cdiv); exact rfl)
      | ((with_reducible apply R.cpow); exact rfl)
      | with_reducible apply hU
      | ((with_reducible apply wayNF); first | exact rfl | exact ⟨rfl, rfl⟩ | exact ⟨rfl, rfl, rfl⟩ | exact ⟨rfl, rfl, rfl, rfl⟩)
      | with_reducible apply R.forE
      | with_reducible apply R.rng1
      | with_reducible apply R.rng2
      | with_reducible apply R.rg1
      | with_reducible apply R.rg2
      | with_reducible apply R.lcE
      | with_reducible apply R.itup
      | with_reducible apply R.ilst
      )
    intro r H10 ra rb d10 k10
    obtain ⟨mv, hmv, emv⟩ : ∃ v : Int, (v = 1000 ∨ v = -1000 ∨ v = 997) ∧ atI [V.int 1000, V.int (-1000), V.int 997] r = some (.int v) := by
      obtain rfl | rfl | rfl : r = 0 ∨ r = 1 ∨ r = 2 := by omega
      · exact ⟨1000, .inl rfl, rfl⟩
      · exact ⟨-1000, .inr (.inl rfl), rfl⟩
      · exact ⟨997, .inr (.inr rfl), rfl⟩
    refine R.ixL (xs := [V.int 1000, V.int (-1000), V.int 997]) (by (repeat' (first | with_reducible assumption | ((with_reducible apply SqL.of); with_reducible assumption) | ((with_reducible apply Same.seq); with_reducible assumption) | ((with_reducible apply Kp.seqL); with_reducible assumption) | ((with_reducible apply fresh_ne); with_reducible assumption) | ((with_reducible apply Dw.same); with_reducible assumption)))) emv ?_
    repeat' (first
      | with_reducible apply R.var
      | ((with_reducible apply R.isEq); exact rfl)
      | with_reducible apply R.op
      | with_reducible apply R.i2
      | with_reducible apply R.i0
      | with_reducible apply R.con
      | with_reducible apply R.cons
      | with_reducible apply R.nil
      | with_reducible apply R.gcons
      | with_reducible apply R.gname
      | ((with_reducible apply R.ixT); (focus ((repeat' (first | with_reducible assumption | with_reducible apply hU | ((with_reducible apply SqT.of); with_reducible assumption) | ((with_reducible apply same_seqT); with_reducible assumption) | ((with_reducible apply kp_seqT); with_reducible assumption) | ((with_reducible apply Dw.same); with_reducible assumption))); done)); exact rfl)
      | ((with_reducible apply R.ixL); (focus ((repeat' (first | with_reducible assumption | ((with_reducible apply SqL.of); with_reducible assumption) | ((with_reducible apply Same.seq); with_reducible assumption) | ((with_reducible apply Kp.seqL); with_reducible assumption) | ((with_reducible apply fresh_ne); with_reducible assumption) | ((with_reducible apply Dw.same); with_reducible assumption))); done)); exact rfl)
      | with_reducible assumption
      | with_reducible apply Bd.mulW
      | with_reducible apply Bd.mul
      | with_reducible apply Bd.add
      | with_reducible apply Bd.sub
      | ((with_reducible apply Bd.l8); exact eq_true (by decide))
      | ((with_reducible apply Bd.lit); exact eq_true (by decide))
      | with_reducible apply Bd.neg
      | with_reducible apply Bd.div
      | ((with_reducible apply Bd.om); omega)
      | ((with_reducible apply R.isLe); first | decide | omega)
      | with_reducible apply R.un
      | with_reducible apply R.u1
      | with_reducible apply R.tup
      | with_reducible apply R.lst
      | with_reducible apply R.call
      | with_reducible apply R.callB
      | with_reducible apply R.gtup
      | with_reducible apply R.gnil
      | with_reducible apply R.seq
      | with_reducible apply R.asg
      | with_reducible apply R.ret
      | with_reducible apply R.next
      | with_reducible apply R.drop
      | with_reducible apply R.par
      | with_reducible apply R.par2
      | with_reducible apply R.ifs
      | with_reducible apply R.tif
      | with_reducible apply R.test
      | with_reducible apply R.tb'
      | with_reducible apply R.isbl
      | with_reducible apply R.cmp
      | with_reducible apply R.t2i
      | with_reducible apply R.intp
      | with_reducible apply R.and
      | with_reducible apply R.or
      | with_reducible apply R.not
      | with_reducible apply R.andV
      | with_reducible apply R.orV
      | with_reducible apply R.notV
      | with_reducible apply R.chain
      | with_reducible apply R.tupL
      | with_reducible apply R.lstL
      | with_reducible apply R.cat
      | with_reducible apply R.isiT
      | with_reducible apply R.isiTup
      | with_reducible apply R.isiLst
      | with_reducible apply R.nwT
      | with_reducible apply R.nwL
      | ((with_reducible apply R.mt); intro HN tn sn nn ht)
      | ((with_reducible apply R.ml); intro HN tn sn nn ht)
      | ((with_reducible apply R.ne4); focus ((repeat' (first | with_reducible assumption | with_reducible apply hU | ((with_reducible apply SqT.of); with_reducible assumption) | ((with_reducible apply same_seqT); with_reducible assumption) | ((with_reducible apply kp_seqT); with_reducible assumption) | ((with_reducible apply Dw.same); with_reducible assumption))); done))
      | ((with_reducible apply R.ne3); focus ((repeat' (first | with_reducible assumption | with_reducible apply hU | ((with_reducible apply SqT.of); with_reducible assumption) | ((with_reducible apply same_seqT); with_reducible assumption) | ((with_reducible apply kp_seqT); with_reducible assumption) | ((with_reducible apply Dw.same); with_reducible assumption))); done))
      | ((with_reducible apply R.ne2); focus ((repeat' (first | with_reducible assumption | with_reducible apply hU | ((with_reducible apply SqT.of); with_reducible assumption) | ((with_reducible apply same_seqT); with_reducible assumption) | ((with_reducible apply kp_seqT); with_reducible assumption) | ((with_reducible apply Dw.same); with_reducible assumption))); done))
      | ((with_reducible apply R.eq4); focus ((repeat' (first | with_reducible assumption | with_reducible apply hU | ((with_reducible apply SqT.of); with_reducible assumption) | ((with_reducible apply same_seqT); with_reducible assumption) | ((with_reducible apply kp_seqT); with_reducible assumption) | ((with_reducible apply Dw.same); with_reducible assumption))); done))
      | ((with_reducible apply R.eq3); focus ((repeat' (first | with_reducible assumption | with_reducible apply hU | ((with_reducible apply SqT.of); with_reducible assumption) | ((with_reducible apply same_seqT); with_reducible assumption) | ((with_reducible apply kp_seqT); with_reducible assumption) | ((with_reducible apply Dw.same); with_reducible assumption))); done))
      | ((with_reducible apply R.eq2); focus ((repeat' (first | with_reducible assumption | with_reducible apply hU | ((with_reducible apply SqT.of); with_reducible assumption) | ((with_reducible apply same_seqT); with_reducible assumption) | ((with_reducible apply kp_seqT); with_reducible assumption) | ((with_reducible apply Dw.same); with_reducible assumption))); done))
      | with_reducible apply uLawNext
      | with_reducible apply uLawWide
      | with_reducible apply uLawChange
      | with_reducible apply uMultiply
      | with_reducible apply uDeterminant
      | with_reducible apply uApply
      | with_reducible apply uNegative
      | with_reducible apply uLawAt
      | with_reducible apply uLawMul
      | with_reducible apply uInverse
      | ((with_reducible apply R.nw); intro HN tn sn ht)
      | with_reducible apply iteT
      | with_reducible apply iteF
      | ((with_reducible apply SqT.of); with_reducible assumption)
      | ((with_reducible apply SqL.of); with_reducible assumption)
      | ((with_reducible apply same_seqT); with_reducible assumption)
      | ((with_reducible apply sameB); with_reducible assumption)
      | ((with_reducible apply same_at); with_reducible assumption)
      | ((with_reducible apply kp_seqT); with_reducible assumption)
      | ((with_reducible apply Same.seq); with_reducible assumption)
      | ((with_reducible apply Kp.seqL); with_reducible assumption)
      | ((with_reducible apply fresh_ne); with_reducible assumption)
      | ((with_reducible apply Dw.same); with_reducible assumption)
      | ((with_reducible apply R.isEq); exact eq_true (by first | decide | omega))
      | ((with_reducible apply R.isLt); first | decide | omega)
      | ((with_reducible apply R.isLtI); first | decide | omega)
      | ((with_reducible apply R.isLeI); first | decide | omega)
      | ((with_reducible apply R.cdiv); exact rfl)
      | ((with_reducible apply R.cpow); exact rfl)
      | with_reducible apply hU
      | ((with_reducible apply wayNF); first | exact rfl | exact ⟨rfl, rfl⟩ | exact ⟨rfl, rfl, rfl⟩ | exact ⟨rfl, rfl, rfl, rfl⟩)
      | with_reducible apply R.forE
      | with_reducible apply R.rng1
      | with_reducible apply R.rng2
      | with_reducible apply R.rg1
      | with_reducible apply R.rg2
      | with_reducible apply R.lcE
      | with_reducible apply R.itup
      | with_reducible apply R.ilst
      )
    have bt : Bd 5 (t - 4) := Bd.of (m := 5) (by omega) (by decide)
    refine uRaised rfl (by (repeat' (first | with_reducible assumption | with_reducible apply hU | ((with_reducible apply SqT.of); with_reducible assumption) | ((with_reducible apply same_seqT); with_reducible assumption) | ((with_reducible apply kp_seqT); with_reducible assumption) | ((with_reducible apply Dw.same); with_reducible assumption)))) (by omega) (by omega) (.inl (show (1 : Int) * 1 - (t - 4) * 0 = 1 by omega)) (by (apply bdm; (repeat' (first   | with_reducible apply R.var   | ((with_reducible apply R.isEq); exact rfl)   | with_reducible apply R.op   | with_reducible apply R.i2   | with_reducible apply R.i0   | with_reducible apply R.con   | with_reducible apply R.cons   | with_reducible apply R.nil   | with_reducible apply R.gcons   | with_reducible apply R.gname   | ((with_reducible apply R.ixT); (focus ((repeat' (first | with_reducible assumption | with_reducible apply hU | ((with_reducible apply SqT.of); with_reducible assumption) | ((with_reducible apply same_seqT); with_reducible assumption) | ((with_reducible apply kp_seqT); with_reducible assumption) | ((with_reducible apply Dw.same); with_reducible assumption))); done)); exact rfl)   | ((with_reducible apply R.ixL); (focus ((repeat' (first | with_reducible assumption | ((with_reducible apply SqL.of); with_reducible assumption) | ((with_reducible apply Same.seq); with_reducible assumption) | ((with_reducible apply Kp.seqL); with_reducible assumption) | ((with_reducible apply fresh_ne); with_reducible assumption) | ((with_reducible apply Dw.same); with_reducible assumption))); done)); exact rfl)   | with_reducible assumption   | with_reducible apply Bd.mulW   | with_reducible apply Bd.mul   | with_reducible apply Bd.add   | with_reducible apply Bd.sub   | ((with_reducible apply Bd.l8); exact eq_true (by decide))   | ((with_reducible apply Bd.lit); exact eq_true (by decide))   | with_reducible apply Bd.neg   | with_reducible apply Bd.div   | ((with_reducible apply Bd.om); omega)   | ((with_reducible apply R.isLe); first | decide | omega)   | with_reducible apply R.un   | with_reducible apply R.u1   | with_reducible apply R.tup   | with_reducible apply R.lst   | with_reducible apply R.call   | with_reducible apply R.callB   | with_reducible apply R.gtup   | with_reducible apply R.gnil   | with_reducible apply R.seq   | with_reducible apply R.asg   | with_reducible apply R.ret   | with_reducible apply R.next   | with_reducible apply R.drop   | with_reducible apply R.par   | with_reducible apply R.par2   | with_reducible apply R.ifs   | with_reducible apply R.tif   | with_reducible apply R.test   | with_reducible apply R.tb'   | with_reducible apply R.isbl   | with_reducible apply R.cmp   | with_reducible apply R.t2i   | with_reducible apply R.intp   | with_reducible apply R.and   | with_reducible apply R.or   | with_reducible apply R.not   | with_reducible apply R.andV   | with_reducible apply R.orV   | with_reducible apply R.notV   | with_reducible apply R.chain   | with_reducible apply R.tupL   | with_reducible apply R.lstL   | with_reducible apply R.cat   | with_reducible apply R.isiT   | with_reducible apply R.isiTup   | with_reducible apply R.isiLst   | with_reducible apply R.nwT   | with_reducible apply R.nwL   | ((with_reducible apply R.mt); intro HN tn sn nn ht)   | ((with_reducible apply R.ml); intro HN tn sn nn ht)   | ((with_reducible apply R.ne4); focus ((repeat' (first | with_reducible assumption | with_reducible apply hU | ((with_reducible apply SqT.of); with_reducible assumption) | ((with_reducible apply same_seqT); with_reducible assumption) | ((with_reducible apply kp_seqT); with_reducible assumption) | ((with_reducible apply Dw.same); with_reducible assumption))); done))   | ((with_reducible apply R.ne3); focus ((repeat' (first | with_reducible assumption | with_reducible apply hU | ((with_reducible apply SqT.of); with_reducible assumption) | ((with_reducible apply same_seqT); with_reducible assumption) | ((with_reducible apply kp_seqT); with_reducible assumption) | ((with_reducible apply Dw.same); with_reducible assumption))); done))   | ((with_reducible apply R.ne2); focus ((repeat' (first | with_reducible assumption | with_reducible apply hU | ((with_reducible apply SqT.of); with_reducible assumption) | ((with_reducible apply same_seqT); with_reducible assumption) | ((with_reducible apply kp_seqT); with_reducible assumption) | ((with_reducible apply Dw.same); with_reducible assumption))); done))   | ((with_reducible apply R.eq4); focus ((repeat' (first | with_reducible assumption | with_reducible apply hU | ((with_reducible apply SqT.of); with_reducible assumption) | ((with_reducible apply same_seqT); with_reducible assumption) | ((with_reducible apply kp_seqT); with_reducible assumption) | ((with_reducible apply Dw.same); with_reducible assumption))); done))   | ((with_reducible apply R.eq3); focus ((repeat' (first | with_reducible assumption | with_reducible apply hU | ((with_reducible apply SqT.of); with_reducible assumption) | ((with_reducible apply same_seqT); with_reducible assumption) | ((with_reducible apply kp_seqT); with_reducible assumption) | ((with_reducible apply Dw.same); with_reducible assumption))); done))   | ((with_reducible apply R.eq2); focus ((repeat' (first | with_reducible assumption | with_reducible apply hU | ((with_reducible apply SqT.of); with_reducible assumption) | ((with_reducible apply same_seqT); with_reducible assumption) | ((with_reducible apply kp_seqT); with_reducible assumption) | ((with_reducible apply Dw.same); with_reducible assumption))); done))   | with_reducible apply uLawNext   | with_reducible apply uLawWide   | with_reducible apply uLawChange   | with_reducible apply uMultiply   | with_reducible apply uDeterminant   | with_reducible apply uApply   | with_reducible apply uNegative   | with_reducible apply uLawAt   | with_reducible apply uLawMul   | with_reducible apply uInverse   | ((with_reducible apply R.nw); intro HN tn sn ht)   | with_reducible apply iteT   | with_reducible apply iteF   | ((with_reducible apply SqT.of); with_reducible assumption)   | ((with_reducible apply SqL.of); with_reducible assumption)   | ((with_reducible apply same_seqT); with_reducible assumption)   | ((with_reducible apply sameB); with_reducible assumption)   | ((with_reducible apply same_at); with_reducible assumption)   | ((with_reducible apply kp_seqT); with_reducible assumption)   | ((with_reducible apply Same.seq); with_reducible assumption)   | ((with_reducible apply Kp.seqL); with_reducible assumption)   | ((with_reducible apply fresh_ne); with_reducible assumption)   | ((with_reducible apply Dw.same); with_reducible assumption)   | ((with_reducible apply R.isEq); exact eq_true (by first | decide | omega))   | ((with_reducible apply R.isLt); first | decide | omega)   | ((with_reducible apply R.isLtI); first | decide | omega)   | ((with_reducible apply R.isLeI); first | decide | omega)   | ((with_reducible apply R.cdiv); exact rfl)   | ((with_reducible apply R.cpow); exact rfl)   | with_reducible apply hU   | ((with_reducible apply wayNF); first | exact rfl | exact ⟨rfl, rfl⟩ | exact ⟨rfl, rfl, rfl⟩ | exact ⟨rfl, rfl, rfl, rfl⟩)   | with_reducible apply R.forE   | with_reducible apply R.rng1   | with_reducible apply R.rng2   | with_reducible apply R.rg1   | with_reducible apply R.rg2   | with_reducible apply R.lcE   | with_reducible apply R.itup   | with_reducible apply R.ilst   )))) (by (apply bdm; (repeat' (first   | with_reducible apply R.var   | ((with_reducible apply R.isEq); exact rfl)   | with_reducible apply R.op   | with_reducible apply R.i2   | with_reducible apply R.i0   | with_reducible apply R.con   | with_reducible apply R.cons   | with_reducible apply R.nil   | with_reducible apply R.gcons   | with_reducible apply R.gname   | ((with_reducible apply R.ixT); (focus ((repeat' (first | with_reducible assumption | with_reducible apply hU | ((with_reducible apply SqT.of); with_reducible assumption) | ((with_reducible apply same_seqT); with_reducible assumption) | ((with_reducible apply kp_seqT); with_reducible assumption) | ((with_reducible apply Dw.same); with_reducible assumption))); done)); exact rfl)   | ((with_reducible apply R.ixL); (focus ((repeat' (first | with_reducible assumption | ((with_reducible apply SqL.of); with_reducible assumption) | ((with_reducible apply Same.seq); with_reducible assumption) | ((with_reducible apply Kp.seqL); with_reducible assumption) | ((with_reducible apply fresh_ne); with_reducible assumption) | ((with_reducible apply Dw.same); with_reducible assumption))); done)); exact rfl)   | with_reducible assumption   | with_reducible apply Bd.mulW   | with_reducible apply Bd.mul   | with_reducible apply Bd.add   | with_reducible apply Bd.sub   | ((with_reducible apply Bd.l8); exact eq_true (by decide))   | ((with_reducible apply Bd.lit); exact eq_true (by decide))   | with_reducible apply Bd.neg   | with_reducible apply Bd.div   | ((with_reducible apply Bd.om); omega)   | ((with_reducible apply R.isLe); first | decide | omega)   | with_reducible apply R.un   | with_reducible apply R.u1   | with_reducible apply R.tup   | with_reducible apply R.lst   | with_reducible apply R.call   | with_reducible apply R.callB   | with_reducible apply R.gtup   | with_reducible apply R.gnil   | with_reducible apply R.seq   | with_reducible apply R.asg   | with_reducible apply R.ret   | with_reducible apply R.next   | with_reducible apply R.drop   | with_reducible apply R.par   | with_reducible apply R.par2   | with_reducible apply R.ifs   | with_reducible apply R.tif   | with_reducible apply R.test   | with_reducible apply R.tb'   | with_reducible apply R.isbl   | with_reducible apply R.cmp   | with_reducible apply R.t2i   | with_reducible apply R.intp   | with_reducible apply R.and   | with_reducible apply R.or   | with_reducible apply R.not   | with_reducible apply R.andV   | with_reducible apply R.orV   | with_reducible apply R.notV   | with_reducible apply R.chain   | with_reducible apply R.tupL   | with_reducible apply R.lstL   | with_reducible apply R.cat   | with_reducible apply R.isiT   | with_reducible apply R.isiTup   | with_reducible apply R.isiLst   | with_reducible apply R.nwT   | with_reducible apply R.nwL   | ((with_reducible apply R.mt); intro HN tn sn nn ht)   | ((with_reducible apply R.ml); intro HN tn sn nn ht)   | ((with_reducible apply R.ne4); focus ((repeat' (first | with_reducible assumption | with_reducible apply hU | ((with_reducible apply SqT.of); with_reducible assumption) | ((with_reducible apply same_seqT); with_reducible assumption) | ((with_reducible apply kp_seqT); with_reducible assumption) | ((with_reducible apply Dw.same); with_reducible assumption))); done))   | ((with_reducible apply R.ne3); focus ((repeat' (first | with_reducible assumption | with_reducible apply hU | ((with_reducible apply SqT.of); with_reducible assumption) | ((with_reducible apply same_seqT); with_reducible assumption) | ((with_reducible apply kp_seqT); with_reducible assumption) | ((with_reducible apply Dw.same); with_reducible assumption))); done))   | ((with_reducible apply R.ne2); focus ((repeat' (first | with_reducible assumption | with_reducible apply hU | ((with_reducible apply SqT.of); with_reducible assumption) | ((with_reducible apply same_seqT); with_reducible assumption) | ((with_reducible apply kp_seqT); with_reducible assumption) | ((with_reducible apply Dw.same); with_reducible assumption))); done))   | ((with_reducible apply R.eq4); focus ((repeat' (first | with_reducible assumption | with_reducible apply hU | ((with_reducible apply SqT.of); with_reducible assumption) | ((with_reducible apply same_seqT); with_reducible assumption) | ((with_reducible apply kp_seqT); with_reducible assumption) | ((with_reducible apply Dw.same); with_reducible assumption))); done))   | ((with_reducible apply R.eq3); focus ((repeat' (first | with_reducible assumption | with_reducible apply hU | ((with_reducible apply SqT.of); with_reducible assumption) | ((with_reducible apply same_seqT); with_reducible assumption) | ((with_reducible apply kp_seqT); with_reducible assumption) | ((with_reducible apply Dw.same); with_reducible assumption))); done))   | ((with_reducible apply R.eq2); focus ((repeat' (first | with_reducible assumption | with_reducible apply hU | ((with_reducible apply SqT.of); with_reducible assumption) | ((with_reducible apply same_seqT); with_reducible assumption) | ((with_reducible apply kp_seqT); with_reducible assumption) | ((with_reducible apply Dw.same); with_reducible assumption))); done))   | with_reducible apply uLawNext   | with_reducible apply uLawWide   | with_reducible apply uLawChange   | with_reducible apply uMultiply   | with_reducible apply uDeterminant   | with_reducible apply uApply   | with_reducible apply uNegative   | with_reducible apply uLawAt   | with_reducible apply uLawMul   | with_reducible apply uInverse   | ((with_reducible apply R.nw); intro HN tn sn ht)   | with_reducible apply iteT   | with_reducible apply iteF   | ((with_reducible apply SqT.of); with_reducible assumption)   | ((with_reducible apply SqL.of); with_reducible assumption)   | ((with_reducible apply same_seqT); with_reducible assumption)   | ((with_reducible apply sameB); with_reducible assumption)   | ((with_reducible apply same_at); with_reducible assumption)   | ((with_reducible apply kp_seqT); with_reducible assumption)   | ((with_reducible apply Same.seq); with_reducible assumption)   | ((with_reducible apply Kp.seqL); with_reducible assumption)   | ((with_reducible apply fresh_ne); with_reducible assumption)   | ((with_reducible apply Dw.same); with_reducible assumption)   | ((with_reducible apply R.isEq); exact eq_true (by first | decide | omega))   | ((with_reducible apply R.isLt); first | decide | omega)   | ((with_reducible apply R.isLtI); first | decide | omega)   | ((with_reducible apply R.isLeI); first | decide | omega)   | ((with_reducible apply R.cdiv); exact rfl)   | ((with_reducible apply R.cpow); exact rfl)   | with_reducible apply hU   | ((with_reducible apply wayNF); first | exact rfl | exact ⟨rfl, rfl⟩ | exact ⟨rfl, rfl, rfl⟩ | exact ⟨rfl, rfl, rfl, rfl⟩)   | with_reducible apply R.forE   | with_reducible apply R.rng1   | with_reducible apply R.rng2   | with_reducible apply R.rg1   | with_reducible apply R.rg2   | with_reducible apply R.lcE   | with_reducible apply R.itup   | with_reducible apply R.ilst   )))) (by (apply bdm; (repeat' (first   | with_reducible apply R.var   | ((with_reducible apply R.isEq); exact rfl)   | with_reducible apply R.op   | with_reducible apply R.i2   | with_reducible apply R.i0   | with_reducible apply R.con   | with_reducible apply R.cons   | with_reducible apply R.nil   | with_reducible apply R.gcons   | with_reducible apply R.gname   | ((with_reducible apply R.ixT); (focus ((repeat' (first | with_reducible assumption | with_reducible apply hU | ((with_reducible apply SqT.of); with_reducible assumption) | ((with_reducible apply same_seqT); with_reducible assumption) | ((with_reducible apply kp_seqT); with_reducible assumption) | ((with_reducible apply Dw.same); with_reducible assumption))); done)); exact rfl)   | ((with_reducible apply R.ixL); (focus ((repeat' (first | with_reducible assumption | ((with_reducible apply SqL.of); with_reducible assumption) | ((with_reducible apply Same.seq); with_reducible assumption) | ((with_reducible apply Kp.seqL); with_reducible assumption) | ((with_reducible apply fresh_ne); with_reducible assumption) | ((with_reducible apply Dw.same); with_reducible assumption))); done)); exact rfl)   | with_reducible assumption   | with_reducible apply Bd.mulW   | with_reducible apply Bd.mul   | with_reducible apply Bd.add   | with_reducible apply Bd.sub   | ((with_reducible apply Bd.l8); exact eq_true (by decide))   | ((with_reducible apply Bd.lit); exact eq_true (by decide))   | with_reducible apply Bd.neg   | with_reducible apply Bd.div   | ((with_reducible apply Bd.om); omega)   | ((with_reducible apply R.isLe); first | decide | omega)   | with_reducible apply R.un   | with_reducible apply R.u1   | with_reducible apply R.tup   | with_reducible apply R.lst   | with_reducible apply R.call   | with_reducible apply R.callB   | with_reducible apply R.gtup   | with_reducible apply R.gnil   | with_reducible apply R.seq   | with_reducible apply R.asg   | with_reducible apply R.ret   | with_reducible apply R.next   | with_reducible apply R.drop   | with_reducible apply R.par   | with_reducible apply R.par2   | with_reducible apply R.ifs   | with_reducible apply R.tif   | with_reducible apply R.test   | with_reducible apply R.tb'   | with_reducible apply R.isbl   | with_reducible apply R.cmp   | with_reducible apply R.t2i   | with_reducible apply R.intp   | with_reducible apply R.and   | with_reducible apply R.or   | with_reducible apply R.not   | with_reducible apply R.andV   | with_reducible apply R.orV   | with_reducible apply R.notV   | with_reducible apply R.chain   | with_reducible apply R.tupL   | with_reducible apply R.lstL   | with_reducible apply R.cat   | with_reducible apply R.isiT   | with_reducible apply R.isiTup   | with_reducible apply R.isiLst   | with_reducible apply R.nwT   | with_reducible apply R.nwL   | ((with_reducible apply R.mt); intro HN tn sn nn ht)   | ((with_reducible apply R.ml); intro HN tn sn nn ht)   | ((with_reducible apply R.ne4); focus ((repeat' (first | with_reducible assumption | with_reducible apply hU | ((with_reducible apply SqT.of); with_reducible assumption) | ((with_reducible apply same_seqT); with_reducible assumption) | ((with_reducible apply kp_seqT); with_reducible assumption) | ((with_reducible apply Dw.same); with_reducible assumption))); done))   | ((with_reducible apply R.ne3); focus ((repeat' (first | with_reducible assumption | with_reducible apply hU | ((with_reducible apply SqT.of); with_reducible assumption) | ((with_reducible apply same_seqT); with_reducible assumption) | ((with_reducible apply kp_seqT); with_reducible assumption) | ((with_reducible apply Dw.same); with_reducible assumption))); done))   | ((with_reducible apply R.ne2); focus ((repeat' (first | with_reducible assumption | with_reducible apply hU | ((with_reducible apply SqT.of); with_reducible assumption) | ((with_reducible apply same_seqT); with_reducible assumption) | ((with_reducible apply kp_seqT); with_reducible assumption) | ((with_reducible apply Dw.same); with_reducible assumption))); done))   | ((with_reducible apply R.eq4); focus ((repeat' (first | with_reducible assumption | with_reducible apply hU | ((with_reducible apply SqT.of); with_reducible assumption) | ((with_reducible apply same_seqT); with_reducible assumption) | ((with_reducible apply kp_seqT); with_reducible assumption) | ((with_reducible apply Dw.same); with_reducible assumption))); done))   | ((with_reducible apply R.eq3); focus ((repeat' (first | with_reducible assumption | with_reducible apply hU | ((with_reducible apply SqT.of); with_reducible assumption) | ((with_reducible apply same_seqT); with_reducible assumption) | ((with_reducible apply kp_seqT); with_reducible assumption) | ((with_reducible apply Dw.same); with_reducible assumption))); done))   | ((with_reducible apply R.eq2); focus ((repeat' (first | with_reducible assumption | with_reducible apply hU | ((with_reducible apply SqT.of); with_reducible assumption) | ((with_reducible apply same_seqT); with_reducible assumption) | ((with_reducible apply kp_seqT); with_reducible assumption) | ((with_reducible apply Dw.same); with_reducible assumption))); done))   | with_reducible apply uLawNext   | with_reducible apply uLawWide   | with_reducible apply uLawChange   | with_reducible apply uMultiply   | with_reducible apply uDeterminant   | with_reducible apply uApply   | with_reducible apply uNegative   | with_reducible apply uLawAt   | with_reducible apply uLawMul   | with_reducible apply uInverse   | ((with_reducible apply R.nw); intro HN tn sn ht)   | with_reducible apply iteT   | with_reducible apply iteF   | ((with_reducible apply SqT.of); with_reducible assumption)   | ((with_reducible apply SqL.of); with_reducible assumption)   | ((with_reducible apply same_seqT); with_reducible assumption)   | ((with_reducible apply sameB); with_reducible assumption)   | ((with_reducible apply same_at); with_reducible assumption)   | ((with_reducible apply kp_seqT); with_reducible assumption)   | ((with_reducible apply Same.seq); with_reducible assumption)   | ((with_reducible apply Kp.seqL); with_reducible assumption)   | ((with_reducible apply fresh_ne); with_reducible assumption)   | ((with_reducible apply Dw.same); with_reducible assumption)   | ((with_reducible apply R.isEq); exact eq_true (by first | decide | omega))   | ((with_reducible apply R.isLt); first | decide | omega)   | ((with_reducible apply R.isLtI); first | decide | omega)   | ((with_reducible apply R.isLeI); first | decide | omega)   | ((with_reducible apply R.cdiv); exact rfl)   | ((with_reducible apply R.cpow); exact rfl)   | with_reducible apply hU   | ((with_reducible apply wayNF); first | exact rfl | exact ⟨rfl, rfl⟩ | exact ⟨rfl, rfl, rfl⟩ | exact ⟨rfl, rfl, rfl, rfl⟩)   | with_reducible apply R.forE   | with_reducible apply R.rng1   | with_reducible apply R.rng2   | with_reducible apply R.rg1   | with_reducible apply R.rg2   | with_reducible apply R.lcE   | with_reducible apply R.itup   | with_reducible apply R.ilst   )))) (by (apply bdm; (repeat' (first   | with_reducible apply R.var   | ((with_reducible apply R.isEq); exact rfl)   | with_reducible apply R.op   | with_reducible apply R.i2   | with_reducible apply R.i0   | with_reducible apply R.con   | with_reducible apply R.cons   | with_reducible apply R.nil   | with_reducible apply R.gcons   | with_reducible apply R.gname   | ((with_reducible apply R.ixT); (focus ((repeat' (first | with_reducible assumption | with_reducible apply hU | ((with_reducible apply SqT.of); with_reducible assumption) | ((with_reducible apply same_seqT); with_reducible assumption) | ((with_reducible apply kp_seqT); with_reducible assumption) | ((with_reducible apply Dw.same); with_reducible assumption))); done)); exact rfl)   | ((with_reducible apply R.ixL); (focus ((repeat' (first | with_reducible assumption | ((with_reducible apply SqL.of); with_reducible assumption) | ((with_reducible apply Same.seq); with_reducible assumption) | ((with_reducible apply Kp.seqL); with_reducible assumption) | ((with_reducible apply fresh_ne); with_reducible assumption) | ((with_reducible apply Dw.same); with_reducible assumption))); done)); exact rfl)   | with_reducible assumption   | with_reducible apply Bd.mulW   | with_reducible apply Bd.mul   | with_reducible apply Bd.add   | with_reducible apply Bd.sub   | ((with_reducible apply Bd.l8); exact eq_true (by decide))   | ((with_reducible apply Bd.lit); exact eq_true (by decide))   | with_reducible apply Bd.neg   | with_reducible apply Bd.div   | ((with_reducible apply Bd.om); omega)   | ((with_reducible apply R.isLe); first | decide | omega)   | with_reducible apply R.un   | with_reducible apply R.u1   | with_reducible apply R.tup   | with_reducible apply R.lst   | with_reducible apply R.call   | with_reducible apply R.callB   | with_reducible apply R.gtup   | with_reducible apply R.gnil   | with_reducible apply R.seq   | with_reducible apply R.asg   | with_reducible apply R.ret   | with_reducible apply R.next   | with_reducible apply R.drop   | with_reducible apply R.par   | with_reducible apply R.par2   | with_reducible apply R.ifs   | with_reducible apply R.tif   | with_reducible apply R.test   | with_reducible apply R.tb'   | with_reducible apply R.isbl   | with_reducible apply R.cmp   | with_reducible apply R.t2i   | with_reducible apply R.intp   | with_reducible apply R.and   | with_reducible apply R.or   | with_reducible apply R.not   | with_reducible apply R.andV   | with_reducible apply R.orV   | with_reducible apply R.notV   | with_reducible apply R.chain   | with_reducible apply R.tupL   | with_reducible apply R.lstL   | with_reducible apply R.cat   | with_reducible apply R.isiT   | with_reducible apply R.isiTup   | with_reducible apply R.isiLst   | with_reducible apply R.nwT   | with_reducible apply R.nwL   | ((with_reducible apply R.mt); intro HN tn sn nn ht)   | ((with_reducible apply R.ml); intro HN tn sn nn ht)   | ((with_reducible apply R.ne4); focus ((repeat' (first | with_reducible assumption | with_reducible apply hU | ((with_reducible apply SqT.of); with_reducible assumption) | ((with_reducible apply same_seqT); with_reducible assumption) | ((with_reducible apply kp_seqT); with_reducible assumption) | ((with_reducible apply Dw.same); with_reducible assumption))); done))   | ((with_reducible apply R.ne3); focus ((repeat' (first | with_reducible assumption | with_reducible apply hU | ((with_reducible apply SqT.of); with_reducible assumption) | ((with_reducible apply same_seqT); with_reducible assumption) | ((with_reducible apply kp_seqT); with_reducible assumption) | ((with_reducible apply Dw.same); with_reducible assumption))); done))   | ((with_reducible apply R.ne2); focus ((repeat' (first | with_reducible assumption | with_reducible apply hU | ((with_reducible apply SqT.of); with_reducible assumption) | ((with_reducible apply same_seqT); with_reducible assumption) | ((with_reducible apply kp_seqT); with_reducible assumption) | ((with_reducible apply Dw.same); with_reducible assumption))); done))   | ((with_reducible apply R.eq4); focus ((repeat' (first | with_reducible assumption | with_reducible apply hU | ((with_reducible apply SqT.of); with_reducible assumption) | ((with_reducible apply same_seqT); with_reducible assumption) | ((with_reducible apply kp_seqT); with_reducible assumption) | ((with_reducible apply Dw.same); with_reducible assumption))); done))   | ((with_reducible apply R.eq3); focus ((repeat' (first | with_reducible assumption | with_reducible apply hU | ((with_reducible apply SqT.of); with_reducible assumption) | ((with_reducible apply same_seqT); with_reducible assumption) | ((with_reducible apply kp_seqT); with_reducible assumption) | ((with_reducible apply Dw.same); with_reducible assumption))); done))   | ((with_reducible apply R.eq2); focus ((repeat' (first | with_reducible assumption | with_reducible apply hU | ((with_reducible apply SqT.of); with_reducible assumption) | ((with_reducible apply same_seqT); with_reducible assumption) | ((with_reducible apply kp_seqT); with_reducible assumption) | ((with_reducible apply Dw.same); with_reducible assumption))); done))   | with_reducible apply uLawNext   | with_reducible apply uLawWide   | with_reducible apply uLawChange   | with_reducible apply uMultiply   | with_reducible apply uDeterminant   | with_reducible apply uApply   | with_reducible apply uNegative   | with_reducible apply uLawAt   | with_reducible apply uLawMul   | with_reducible apply uInverse   | ((with_reducible apply R.nw); intro HN tn sn ht)   | with_reducible apply iteT   | with_reducible apply iteF   | ((with_reducible apply SqT.of); with_reducible assumption)   | ((with_reducible apply SqL.of); with_reducible assumption)   | ((with_reducible apply same_seqT); with_reducible assumption)   | ((with_reducible apply sameB); with_reducible assumption)   | ((with_reducible apply same_at); with_reducible assumption)   | ((with_reducible apply kp_seqT); with_reducible assumption)   | ((with_reducible apply Same.seq); with_reducible assumption)   | ((with_reducible apply Kp.seqL); with_reducible assumption)   | ((with_reducible apply fresh_ne); with_reducible assumption)   | ((with_reducible apply Dw.same); with_reducible assumption)   | ((with_reducible apply R.isEq); exact eq_true (by first | decide | omega))   | ((with_reducible apply R.isLt); first | decide | omega)   | ((with_reducible apply R.isLtI); first | decide | omega)   | ((with_reducible apply R.isLeI); first | decide | omega)   | ((with_reducible apply R.cdiv); exact rfl)   | ((with_reducible apply R.cpow); exact rfl)   | with_reducible apply hU   | ((with_reducible apply wayNF); first | exact rfl | exact ⟨rfl, rfl⟩ | exact ⟨rfl, rfl, rfl⟩ | exact ⟨rfl, rfl, rfl, rfl⟩)   | with_reducible apply R.forE   | with_reducible apply R.rng1   | with_reducible apply R.rng2   | with_reducible apply R.rg1   | with_reducible apply R.rg2   | with_reducible apply R.lcE   | with_reducible apply R.itup   | with_reducible apply R.ilst   )))) (x1 := 1) (x2 := (t - 4) * mv) (x3 := 0) (x4 := 1) ?_ ?_
    · unfold rz
      by_cases z : 0 ≤ mv
      · rw [if_pos z, mpw_shear]
        refine t4_ext rfl ?_ rfl rfl
        rw [Int.toNat_of_nonneg z]
      · rw [if_neg z]
        have e : madj (1, t - 4, 0, 1) = (1, -(t - 4), 0, 1) := by
          refine t4_ext ?_ ?_ ?_ ?_ <;> (dsimp only [mdet]; omega)
        rw [e, mpw_shear]
        refine t4_ext rfl ?_ rfl rfl
        rw [Int.toNat_of_nonneg (by omega), Int.neg_mul_neg]
    repeat' (first
      | with_reducible apply R.var
      | ((with_reducible apply R.isEq); exact rfl)
      | with_reducible apply R.op
      | with_reducible apply R.i2
      | with_reducible apply R.i0
      | with_reducible apply R.con
      | with_reducible apply R.cons
      | with_reducible apply R.nil
      | with_reducible apply R.gcons
      | with_reducible apply R.gname
      | ((with_reducible apply R.ixT); (focus ((repeat' (first | with_reducible assumption | with_reducible apply hU | ((with_reducible apply SqT.of); with_reducible assumption) | ((with_reducible apply same_seqT); with_reducible assumption) | ((with_reducible apply kp_seqT); with_reducible assumption) | ((with_reducible apply Dw.same); with_reducible assumption))); done)); exact rfl)
      | ((with_reducible apply R.ixL); (focus ((repeat' (first | with_reducible assumption | ((with_reducible apply SqL.of); with_reducible assumption) | ((with_reducible apply Same.seq); with_reducible assumption) | ((with_reducible apply Kp.seqL); with_reducible assumption) | ((with_reducible apply fresh_ne); with_reducible assumption) | ((with_reducible apply Dw.same); with_reducible assumption))); done)); exact rfl)
      | with_reducible assumption
      | with_reducible apply Bd.mulW
      | with_reducible apply Bd.mul
      | with_reducible apply Bd.add
      | with_reducible apply Bd.sub
      | ((with_reducible apply Bd.l8); exact eq_true (by decide))
      | ((with_reducible apply Bd.lit); exact eq_true (by decide))
      | with_reducible apply Bd.neg
      | with_reducible apply Bd.div
      | ((with_reducible apply Bd.om); omega)
      | ((with_reducible apply R.isLe); first | decide | omega)
      | with_reducible apply R.un
      | with_reducible apply R.u1
      | with_reducible apply R.tup
      | with_reducible apply R.lst
      | with_reducible apply R.call
      | with_reducible apply R.callB
      | with_reducible apply R.gtup
      | with_reducible apply R.gnil
      | with_reducible apply R.seq
      | with_reducible apply R.asg
      | with_reducible apply R.ret
      | with_reducible apply R.next
      | with_reducible apply R.drop
      | with_reducible apply R.par
      | with_reducible apply R.par2
      | with_reducible apply R.ifs
      | with_reducible apply R.tif
      | with_reducible apply R.test
      | with_reducible apply R.tb'
      | with_reducible apply R.isbl
      | with_reducible apply R.cmp
      | with_reducible apply R.t2i
      | with_reducible apply R.intp
      | with_reducible apply R.and
      | with_reducible apply R.or
      | with_reducible apply R.not
      | with_reducible apply R.andV
      | with_reducible apply R.orV
      | with_reducible apply R.notV
      | with_reducible apply R.chain
      | with_reducible apply R.tupL
      | with_reducible apply R.lstL
      | with_reducible apply R.cat
      | with_reducible apply R.isiT
      | with_reducible apply R.isiTup
      | with_reducible apply R.isiLst
      | with_reducible apply R.nwT
      | with_reducible apply R.nwL
      | ((with_reducible apply R.mt); intro HN tn sn nn ht)
      | ((with_reducible apply R.ml); intro HN tn sn nn ht)
      | ((with_reducible apply R.ne4); focus ((repeat' (first | with_reducible assumption | with_reducible apply hU | ((with_reducible apply SqT.of); with_reducible assumption) | ((with_reducible apply same_seqT); with_reducible assumption) | ((with_reducible apply kp_seqT); with_reducible assumption) | ((with_reducible apply Dw.same); with_reducible assumption))); done))
      | ((with_reducible apply R.ne3); focus ((repeat' (first | with_reducible assumption | with_reducible apply hU | ((with_reducible apply SqT.of); with_reducible assumption) | ((with_reducible apply same_seqT); with_reducible assumption) | ((with_reducible apply kp_seqT); with_reducible assumption) | ((with_reducible apply Dw.same); with_reducible assumption))); done))
      | ((with_reducible apply R.ne2); focus ((repeat' (first | with_reducible assumption | with_reducible apply hU | ((with_reducible apply SqT.of); with_reducible assumption) | ((with_reducible apply same_seqT); with_reducible assumption) | ((with_reducible apply kp_seqT); with_reducible assumption) | ((with_reducible apply Dw.same); with_reducible assumption))); done))
      | ((with_reducible apply R.eq4); focus ((repeat' (first | with_reducible assumption | with_reducible apply hU | ((with_reducible apply SqT.of); with_reducible assumption) | ((with_reducible apply same_seqT); with_reducible assumption) | ((with_reducible apply kp_seqT); with_reducible assumption) | ((with_reducible apply Dw.same); with_reducible assumption))); done))
      | ((with_reducible apply R.eq3); focus ((repeat' (first | with_reducible assumption | with_reducible apply hU | ((with_reducible apply SqT.of); with_reducible assumption) | ((with_reducible apply same_seqT); with_reducible assumption) | ((with_reducible apply kp_seqT); with_reducible assumption) | ((with_reducible apply Dw.same); with_reducible assumption))); done))
      | ((with_reducible apply R.eq2); focus ((repeat' (first | with_reducible assumption | with_reducible apply hU | ((with_reducible apply SqT.of); with_reducible assumption) | ((with_reducible apply same_seqT); with_reducible assumption) | ((with_reducible apply kp_seqT); with_reducible assumption) | ((with_reducible apply Dw.same); with_reducible assumption))); done))
      | with_reducible apply uLawNext
      | with_reducible apply uLawWide
      | with_reducible apply uLawChange
      | with_reducible apply uMultiply
      | with_reducible apply uDeterminant
      | with_reducible apply uApply
      | with_reducible apply uNegative
      | with_reducible apply uLawAt
      | with_reducible apply uLawMul
      | with_reducible apply uInverse
      | ((with_reducible apply R.nw); intro HN tn sn ht)
      | with_reducible apply iteT
      | with_reducible apply iteF
      | ((with_reducible apply SqT.of); with_reducible assumption)
      | ((with_reducible apply SqL.of); with_reducible assumption)
      | ((with_reducible apply same_seqT); with_reducible assumption)
      | ((with_reducible apply sameB); with_reducible assumption)
      | ((with_reducible apply same_at); with_reducible assumption)
      | ((with_reducible apply kp_seqT); with_reducible assumption)
      | ((with_reducible apply Same.seq); with_reducible assumption)
      | ((with_reducible apply Kp.seqL); with_reducible assumption)
      | ((with_reducible apply fresh_ne); with_reducible assumption)
      | ((with_reducible apply Dw.same); with_reducible assumption)
      | ((with_reducible apply R.isEq); exact eq_true (by first | decide | omega))
      | ((with_reducible apply R.isLt); first | decide | omega)
      | ((with_reducible apply R.isLtI); first | decide | omega)
      | ((with_reducible apply R.isLeI); first | decide | omega)
      | ((with_reducible apply R.cdiv); exact rfl)
      | ((with_reducible apply R.cpow); exact rfl)
      | with_reducible apply hU
      | ((with_reducible apply wayNF); first | exact rfl | exact ⟨rfl, rfl⟩ | exact ⟨rfl, rfl, rfl⟩ | exact ⟨rfl, rfl, rfl, rfl⟩)
      | with_reducible apply R.forE
      | with_reducible apply R.rng1
      | with_reducible apply R.rng2
      | with_reducible apply R.rg1
      | with_reducible apply R.rg2
      | with_reducible apply R.lcE
      | with_reducible apply R.itup
      | with_reducible apply R.ilst
      )
    refine uRaised rfl (by (repeat' (first | with_reducible assumption | with_reducible apply hU | ((with_reducible apply SqT.of); with_reducible assumption) | ((with_reducible apply same_seqT); with_reducible assumption) | ((with_reducible apply kp_seqT); with_reducible assumption) | ((with_reducible apply Dw.same); with_reducible assumption)))) (by omega) (by omega) (.inr (show (1 : Int) * -1 - 0 * (t - 4) = -1 by omega)) (by (apply bdm; (repeat' (first   | with_reducible apply R.var   | ((with_reducible apply R.isEq); exact rfl)   | with_reducible apply R.op   | with_reducible apply R.i2   | with_reducible apply R.i0   | with_reducible apply R.con   | with_reducible apply R.cons   | with_reducible apply R.nil   | with_reducible apply R.gcons   | with_reducible apply R.gname   | ((with_reducible apply R.ixT); (focus ((repeat' (first | with_reducible assumption | with_reducible apply hU | ((with_reducible apply SqT.of); with_reducible assumption) | ((with_reducible apply same_seqT); with_reducible assumption) | ((with_reducible apply kp_seqT); with_reducible assumption) | ((with_reducible apply Dw.same); with_reducible assumption))); done)); exact rfl)   | ((with_reducible apply R.ixL); (focus ((repeat' (first | with_reducible assumption | ((with_reducible apply SqL.of); with_reducible assumption) | ((with_reducible apply Same.seq); with_reducible assumption) | ((with_reducible apply Kp.seqL); with_reducible assumption) | ((with_reducible apply fresh_ne); with_reducible assumption) | ((with_reducible apply Dw.same); with_reducible assumption))); done)); exact rfl)   | with_reducible assumption   | with_reducible apply Bd.mulW   | with_reducible apply Bd.mul   | with_reducible apply Bd.add   | with_reducible apply Bd.sub   | ((with_reducible apply Bd.l8); exact eq_true (by decide))   | ((with_reducible apply Bd.lit); exact eq_true (by decide))   | with_reducible apply Bd.neg   | with_reducible apply Bd.div   | ((with_reducible apply Bd.om); omega)   | ((with_reducible apply R.isLe); first | decide | omega)   | with_reducible apply R.un   | with_reducible apply R.u1   | with_reducible apply R.tup   | with_reducible apply R.lst   | with_reducible apply R.call   | with_reducible apply R.callB   | with_reducible apply R.gtup   | with_reducible apply R.gnil   | with_reducible apply R.seq   | with_reducible apply R.asg   | with_reducible apply R.ret   | with_reducible apply R.next   | with_reducible apply R.drop   | with_reducible apply R.par   | with_reducible apply R.par2   | with_reducible apply R.ifs   | with_reducible apply R.tif   | with_reducible apply R.test   | with_reducible apply R.tb'   | with_reducible apply R.isbl   | with_reducible apply R.cmp   | with_reducible apply R.t2i   | with_reducible apply R.intp   | with_reducible apply R.and   | with_reducible apply R.or   | with_reducible apply R.not   | with_reducible apply R.andV   | with_reducible apply R.orV   | with_reducible apply R.notV   | with_reducible apply R.chain   | with_reducible apply R.tupL   | with_reducible apply R.lstL   | with_reducible apply R.cat   | with_reducible apply R.isiT   | with_reducible apply R.isiTup   | with_reducible apply R.isiLst   | with_reducible apply R.nwT   | with_reducible apply R.nwL   | ((with_reducible apply R.mt); intro HN tn sn nn ht)   | ((with_reducible apply R.ml); intro HN tn sn nn ht)   | ((with_reducible apply R.ne4); focus ((repeat' (first | with_reducible assumption | with_reducible apply hU | ((with_reducible apply SqT.of); with_reducible assumption) | ((with_reducible apply same_seqT); with_reducible assumption) | ((with_reducible apply kp_seqT); with_reducible assumption) | ((with_reducible apply Dw.same); with_reducible assumption))); done))   | ((with_reducible apply R.ne3); focus ((repeat' (first | with_reducible assumption | with_reducible apply hU | ((with_reducible apply SqT.of); with_reducible assumption) | ((with_reducible apply same_seqT); with_reducible assumption) | ((with_reducible apply kp_seqT); with_reducible assumption) | ((with_reducible apply Dw.same); with_reducible assumption))); done))   | ((with_reducible apply R.ne2); focus ((repeat' (first | with_reducible assumption | with_reducible apply hU | ((with_reducible apply SqT.of); with_reducible assumption) | ((with_reducible apply same_seqT); with_reducible assumption) | ((with_reducible apply kp_seqT); with_reducible assumption) | ((with_reducible apply Dw.same); with_reducible assumption))); done))   | ((with_reducible apply R.eq4); focus ((repeat' (first | with_reducible assumption | with_reducible apply hU | ((with_reducible apply SqT.of); with_reducible assumption) | ((with_reducible apply same_seqT); with_reducible assumption) | ((with_reducible apply kp_seqT); with_reducible assumption) | ((with_reducible apply Dw.same); with_reducible assumption))); done))   | ((with_reducible apply R.eq3); focus ((repeat' (first | with_reducible assumption | with_reducible apply hU | ((with_reducible apply SqT.of); with_reducible assumption) | ((with_reducible apply same_seqT); with_reducible assumption) | ((with_reducible apply kp_seqT); with_reducible assumption) | ((with_reducible apply Dw.same); with_reducible assumption))); done))   | ((with_reducible apply R.eq2); focus ((repeat' (first | with_reducible assumption | with_reducible apply hU | ((with_reducible apply SqT.of); with_reducible assumption) | ((with_reducible apply same_seqT); with_reducible assumption) | ((with_reducible apply kp_seqT); with_reducible assumption) | ((with_reducible apply Dw.same); with_reducible assumption))); done))   | with_reducible apply uLawNext   | with_reducible apply uLawWide   | with_reducible apply uLawChange   | with_reducible apply uMultiply   | with_reducible apply uDeterminant   | with_reducible apply uApply   | with_reducible apply uNegative   | with_reducible apply uLawAt   | with_reducible apply uLawMul   | with_reducible apply uInverse   | ((with_reducible apply R.nw); intro HN tn sn ht)   | with_reducible apply iteT   | with_reducible apply iteF   | ((with_reducible apply SqT.of); with_reducible assumption)   | ((with_reducible apply SqL.of); with_reducible assumption)   | ((with_reducible apply same_seqT); with_reducible assumption)   | ((with_reducible apply sameB); with_reducible assumption)   | ((with_reducible apply same_at); with_reducible assumption)   | ((with_reducible apply kp_seqT); with_reducible assumption)   | ((with_reducible apply Same.seq); with_reducible assumption)   | ((with_reducible apply Kp.seqL); with_reducible assumption)   | ((with_reducible apply fresh_ne); with_reducible assumption)   | ((with_reducible apply Dw.same); with_reducible assumption)   | ((with_reducible apply R.isEq); exact eq_true (by first | decide | omega))   | ((with_reducible apply R.isLt); first | decide | omega)   | ((with_reducible apply R.isLtI); first | decide | omega)   | ((with_reducible apply R.isLeI); first | decide | omega)   | ((with_reducible apply R.cdiv); exact rfl)   | ((with_reducible apply R.cpow); exact rfl)   | with_reducible apply hU   | ((with_reducible apply wayNF); first | exact rfl | exact ⟨rfl, rfl⟩ | exact ⟨rfl, rfl, rfl⟩ | exact ⟨rfl, rfl, rfl, rfl⟩)   | with_reducible apply R.forE   | with_reducible apply R.rng1   | with_reducible apply R.rng2   | with_reducible apply R.rg1   | with_reducible apply R.rg2   | with_reducible apply R.lcE   | with_reducible apply R.itup   | with_reducible apply R.ilst   )))) (by (apply bdm; (repeat' (first   | with_reducible apply R.var   | ((with_reducible apply R.isEq); exact rfl)   | with_reducible apply R.op   | with_reducible apply R.i2   | with_reducible apply R.i0   | with_reducible apply R.con   | with_reducible apply R.cons   | with_reducible apply R.nil   | with_reducible apply R.gcons   | with_reducible apply R.gname   | ((with_reducible apply R.ixT); (focus ((repeat' (first | with_reducible assumption | with_reducible apply hU | ((with_reducible apply SqT.of); with_reducible assumption) | ((with_reducible apply same_seqT); with_reducible assumption) | ((with_reducible apply kp_seqT); with_reducible assumption) | ((with_reducible apply Dw.same); with_reducible assumption))); done)); exact rfl)   | ((with_reducible apply R.ixL); (focus ((repeat' (first | with_reducible assumption | ((with_reducible apply SqL.of); with_reducible assumption) | ((with_reducible apply Same.seq); with_reducible assumption) | ((with_reducible apply Kp.seqL); with_reducible assumption) | ((with_reducible apply fresh_ne); with_reducible assumption) | ((with_reducible apply Dw.same); with_reducible assumption))); done)); exact rfl)   | with_reducible assumption   | with_reducible apply Bd.mulW   | with_reducible apply Bd.mul   | with_reducible apply Bd.add   | with_reducible apply Bd.sub   | ((with_reducible apply Bd.l8); exact eq_true (by decide))   | ((with_reducible apply Bd.lit); exact eq_true (by decide))   | with_reducible apply Bd.neg   | with_reducible apply Bd.div   | ((with_reducible apply Bd.om); omega)   | ((with_reducible apply R.isLe); first | decide | omega)   | with_reducible apply R.un   | with_reducible apply R.u1   | with_reducible apply R.tup   | with_reducible apply R.lst   | with_reducible apply R.call   | with_reducible apply R.callB   | with_reducible apply R.gtup   | with_reducible apply R.gnil   | with_reducible apply R.seq   | with_reducible apply R.asg   | with_reducible apply R.ret   | with_reducible apply R.next   | with_reducible apply R.drop   | with_reducible apply R.par   | with_reducible apply R.par2   | with_reducible apply R.ifs   | with_reducible apply R.tif   | with_reducible apply R.test   | with_reducible apply R.tb'   | with_reducible apply R.isbl   | with_reducible apply R.cmp   | with_reducible apply R.t2i   | with_reducible apply R.intp   | with_reducible apply R.and   | with_reducible apply R.or   | with_reducible apply R.not   | with_reducible apply R.andV   | with_reducible apply R.orV   | with_reducible apply R.notV   | with_reducible apply R.chain   | with_reducible apply R.tupL   | with_reducible apply R.lstL   | with_reducible apply R.cat   | with_reducible apply R.isiT   | with_reducible apply R.isiTup   | with_reducible apply R.isiLst   | with_reducible apply R.nwT   | with_reducible apply R.nwL   | ((with_reducible apply R.mt); intro HN tn sn nn ht)   | ((with_reducible apply R.ml); intro HN tn sn nn ht)   | ((with_reducible apply R.ne4); focus ((repeat' (first | with_reducible assumption | with_reducible apply hU | ((with_reducible apply SqT.of); with_reducible assumption) | ((with_reducible apply same_seqT); with_reducible assumption) | ((with_reducible apply kp_seqT); with_reducible assumption) | ((with_reducible apply Dw.same); with_reducible assumption))); done))   | ((with_reducible apply R.ne3); focus ((repeat' (first | with_reducible assumption | with_reducible apply hU | ((with_reducible apply SqT.of); with_reducible assumption) | ((with_reducible apply same_seqT); with_reducible assumption) | ((with_reducible apply kp_seqT); with_reducible assumption) | ((with_reducible apply Dw.same); with_reducible assumption))); done))   | ((with_reducible apply R.ne2); focus ((repeat' (first | with_reducible assumption | with_reducible apply hU | ((with_reducible apply SqT.of); with_reducible assumption) | ((with_reducible apply same_seqT); with_reducible assumption) | ((with_reducible apply kp_seqT); with_reducible assumption) | ((with_reducible apply Dw.same); with_reducible assumption))); done))   | ((with_reducible apply R.eq4); focus ((repeat' (first | with_reducible assumption | with_reducible apply hU | ((with_reducible apply SqT.of); with_reducible assumption) | ((with_reducible apply same_seqT); with_reducible assumption) | ((with_reducible apply kp_seqT); with_reducible assumption) | ((with_reducible apply Dw.same); with_reducible assumption))); done))   | ((with_reducible apply R.eq3); focus ((repeat' (first | with_reducible assumption | with_reducible apply hU | ((with_reducible apply SqT.of); with_reducible assumption) | ((with_reducible apply same_seqT); with_reducible assumption) | ((with_reducible apply kp_seqT); with_reducible assumption) | ((with_reducible apply Dw.same); with_reducible assumption))); done))   | ((with_reducible apply R.eq2); focus ((repeat' (first | with_reducible assumption | with_reducible apply hU | ((with_reducible apply SqT.of); with_reducible assumption) | ((with_reducible apply same_seqT); with_reducible assumption) | ((with_reducible apply kp_seqT); with_reducible assumption) | ((with_reducible apply Dw.same); with_reducible assumption))); done))   | with_reducible apply uLawNext   | with_reducible apply uLawWide   | with_reducible apply uLawChange   | with_reducible apply uMultiply   | with_reducible apply uDeterminant   | with_reducible apply uApply   | with_reducible apply uNegative   | with_reducible apply uLawAt   | with_reducible apply uLawMul   | with_reducible apply uInverse   | ((with_reducible apply R.nw); intro HN tn sn ht)   | with_reducible apply iteT   | with_reducible apply iteF   | ((with_reducible apply SqT.of); with_reducible assumption)   | ((with_reducible apply SqL.of); with_reducible assumption)   | ((with_reducible apply same_seqT); with_reducible assumption)   | ((with_reducible apply sameB); with_reducible assumption)   | ((with_reducible apply same_at); with_reducible assumption)   | ((with_reducible apply kp_seqT); with_reducible assumption)   | ((with_reducible apply Same.seq); with_reducible assumption)   | ((with_reducible apply Kp.seqL); with_reducible assumption)   | ((with_reducible apply fresh_ne); with_reducible assumption)   | ((with_reducible apply Dw.same); with_reducible assumption)   | ((with_reducible apply R.isEq); exact eq_true (by first | decide | omega))   | ((with_reducible apply R.isLt); first | decide | omega)   | ((with_reducible apply R.isLtI); first | decide | omega)   | ((with_reducible apply R.isLeI); first | decide | omega)   | ((with_reducible apply R.cdiv); exact rfl)   | ((with_reducible apply R.cpow); exact rfl)   | with_reducible apply hU   | ((with_reducible apply wayNF); first | exact rfl | exact ⟨rfl, rfl⟩ | exact ⟨rfl, rfl, rfl⟩ | exact ⟨rfl, rfl, rfl, rfl⟩)   | with_reducible apply R.forE   | with_reducible apply R.rng1   | with_reducible apply R.rng2   | with_reducible apply R.rg1   | with_reducible apply R.rg2   | with_reducible apply R.lcE   | with_reducible apply R.itup   | with_reducible apply R.ilst   )))) (by (apply bdm; (repeat' (first   | with_reducible apply R.var   | ((with_reducible apply R.isEq); exact rfl)   | with_reducible apply R.op   | with_reducible apply R.i2   | with_reducible apply R.i0   | with_reducible apply R.con   | with_reducible apply R.cons   | with_reducible apply R.nil   | with_reducible apply R.gcons   | with_reducible apply R.gname   | ((with_reducible apply R.ixT); (focus ((repeat' (first | with_reducible assumption | with_reducible apply hU | ((with_reducible apply SqT.of); with_reducible assumption) | ((with_reducible apply same_seqT); with_reducible assumption) | ((with_reducible apply kp_seqT); with_reducible assumption) | ((with_reducible apply Dw.same); with_reducible assumption))); done)); exact rfl)   | ((with_reducible apply R.ixL); (focus ((repeat' (first | with_reducible assumption | ((with_reducible apply SqL.of); with_reducible assumption) | ((with_reducible apply Same.seq); with_reducible assumption) | ((with_reducible apply Kp.seqL); with_reducible assumption) | ((with_reducible apply fresh_ne); with_reducible assumption) | ((with_reducible apply Dw.same); with_reducible assumption))); done)); exact rfl)   | with_reducible assumption   | with_reducible apply Bd.mulW   | with_reducible apply Bd.mul   | with_reducible apply Bd.add   | with_reducible apply Bd.sub   | ((with_reducible apply Bd.l8); exact eq_true (by decide))   | ((with_reducible apply Bd.lit); exact eq_true (by decide))   | with_reducible apply Bd.neg   | with_reducible apply Bd.div   | ((with_reducible apply Bd.om); omega)   | ((with_reducible apply R.isLe); first | decide | omega)   | with_reducible apply R.un   | with_reducible apply R.u1   | with_reducible apply R.tup   | with_reducible apply R.lst   | with_reducible apply R.call   | with_reducible apply R.callB   | with_reducible apply R.gtup   | with_reducible apply R.gnil   | with_reducible apply R.seq   | with_reducible apply R.asg   | with_reducible apply R.ret   | with_reducible apply R.next   | with_reducible apply R.drop   | with_reducible apply R.par   | with_reducible apply R.par2   | with_reducible apply R.ifs   | with_reducible apply R.tif   | with_reducible apply R.test   | with_reducible apply R.tb'   | with_reducible apply R.isbl   | with_reducible apply R.cmp   | with_reducible apply R.t2i   | with_reducible apply R.intp   | with_reducible apply R.and   | with_reducible apply R.or   | with_reducible apply R.not   | with_reducible apply R.andV   | with_reducible apply R.orV   | with_reducible apply R.notV   | with_reducible apply R.chain   | with_reducible apply R.tupL   | with_reducible apply R.lstL   | with_reducible apply R.cat   | with_reducible apply R.isiT   | with_reducible apply R.isiTup   | with_reducible apply R.isiLst   | with_reducible apply R.nwT   | with_reducible apply R.nwL   | ((with_reducible apply R.mt); intro HN tn sn nn ht)   | ((with_reducible apply R.ml); intro HN tn sn nn ht)   | ((with_reducible apply R.ne4); focus ((repeat' (first | with_reducible assumption | with_reducible apply hU | ((with_reducible apply SqT.of); with_reducible assumption) | ((with_reducible apply same_seqT); with_reducible assumption) | ((with_reducible apply kp_seqT); with_reducible assumption) | ((with_reducible apply Dw.same); with_reducible assumption))); done))   | ((with_reducible apply R.ne3); focus ((repeat' (first | with_reducible assumption | with_reducible apply hU | ((with_reducible apply SqT.of); with_reducible assumption) | ((with_reducible apply same_seqT); with_reducible assumption) | ((with_reducible apply kp_seqT); with_reducible assumption) | ((with_reducible apply Dw.same); with_reducible assumption))); done))   | ((with_reducible apply R.ne2); focus ((repeat' (first | with_reducible assumption | with_reducible apply hU | ((with_reducible apply SqT.of); with_reducible assumption) | ((with_reducible apply same_seqT); with_reducible assumption) | ((with_reducible apply kp_seqT); with_reducible assumption) | ((with_reducible apply Dw.same); with_reducible assumption))); done))   | ((with_reducible apply R.eq4); focus ((repeat' (first | with_reducible assumption | with_reducible apply hU | ((with_reducible apply SqT.of); with_reducible assumption) | ((with_reducible apply same_seqT); with_reducible assumption) | ((with_reducible apply kp_seqT); with_reducible assumption) | ((with_reducible apply Dw.same); with_reducible assumption))); done))   | ((with_reducible apply R.eq3); focus ((repeat' (first | with_reducible assumption | with_reducible apply hU | ((with_reducible apply SqT.of); with_reducible assumption) | ((with_reducible apply same_seqT); with_reducible assumption) | ((with_reducible apply kp_seqT); with_reducible assumption) | ((with_reducible apply Dw.same); with_reducible assumption))); done))   | ((with_reducible apply R.eq2); focus ((repeat' (first | with_reducible assumption | with_reducible apply hU | ((with_reducible apply SqT.of); with_reducible assumption) | ((with_reducible apply same_seqT); with_reducible assumption) | ((with_reducible apply kp_seqT); with_reducible assumption) | ((with_reducible apply Dw.same); with_reducible assumption))); done))   | with_reducible apply uLawNext   | with_reducible apply uLawWide   | with_reducible apply uLawChange   | with_reducible apply uMultiply   | with_reducible apply uDeterminant   | with_reducible apply uApply   | with_reducible apply uNegative   | with_reducible apply uLawAt   | with_reducible apply uLawMul   | with_reducible apply uInverse   | ((with_reducible apply R.nw); intro HN tn sn ht)   | with_reducible apply iteT   | with_reducible apply iteF   | ((with_reducible apply SqT.of); with_reducible assumption)   | ((with_reducible apply SqL.of); with_reducible assumption)   | ((with_reducible apply same_seqT); with_reducible assumption)   | ((with_reducible apply sameB); with_reducible assumption)   | ((with_reducible apply same_at); with_reducible assumption)   | ((with_reducible apply kp_seqT); with_reducible assumption)   | ((with_reducible apply Same.seq); with_reducible assumption)   | ((with_reducible apply Kp.seqL); with_reducible assumption)   | ((with_reducible apply fresh_ne); with_reducible assumption)   | ((with_reducible apply Dw.same); with_reducible assumption)   | ((with_reducible apply R.isEq); exact eq_true (by first | decide | omega))   | ((with_reducible apply R.isLt); first | decide | omega)   | ((with_reducible apply R.isLtI); first | decide | omega)   | ((with_reducible apply R.isLeI); first | decide | omega)   | ((with_reducible apply R.cdiv); exact rfl)   | ((with_reducible apply R.cpow); exact rfl)   | with_reducible apply hU   | ((with_reducible apply wayNF); first | exact rfl | exact ⟨rfl, rfl⟩ | exact ⟨rfl, rfl, rfl⟩ | exact ⟨rfl, rfl, rfl, rfl⟩)   | with_reducible apply R.forE   | with_reducible apply R.rng1   | with_reducible apply R.rng2   | with_reducible apply R.rg1   | with_reducible apply R.rg2   | with_reducible apply R.lcE   | with_reducible apply R.itup   | with_reducible apply R.ilst   )))) (by (apply bdm; (repeat' (first   | with_reducible apply R.var   | ((with_reducible apply R.isEq); exact rfl)   | with_reducible apply R.op   | with_reducible apply R.i2   | with_reducible apply R.i0   | with_reducible apply R.con   | with_reducible apply R.cons   | with_reducible apply R.nil   | with_reducible apply R.gcons   | with_reducible apply R.gname   | ((with_reducible apply R.ixT); (focus ((repeat' (first | with_reducible assumption | with_reducible apply hU | ((with_reducible apply SqT.of); with_reducible assumption) | ((with_reducible apply same_seqT); with_reducible assumption) | ((with_reducible apply kp_seqT); with_reducible assumption) | ((with_reducible apply Dw.same); with_reducible assumption))); done)); exact rfl)   | ((with_reducible apply R.ixL); (focus ((repeat' (first | with_reducible assumption | ((with_reducible apply SqL.of); with_reducible assumption) | ((with_reducible apply Same.seq); with_reducible assumption) | ((with_reducible apply Kp.seqL); with_reducible assumption) | ((with_reducible apply fresh_ne); with_reducible assumption) | ((with_reducible apply Dw.same); with_reducible assumption))); done)); exact rfl)   | with_reducible assumption   | with_reducible apply Bd.mulW   | with_reducible apply Bd.mul   | with_reducible apply Bd.add   | with_reducible apply Bd.sub   | ((with_reducible apply Bd.l8); exact eq_true (by decide))   | ((with_reducible apply Bd.lit); exact eq_true (by decide))   | with_reducible apply Bd.neg   | with_reducible apply Bd.div   | ((with_reducible apply Bd.om); omega)   | ((with_reducible apply R.isLe); first | decide | omega)   | with_reducible apply R.un   | with_reducible apply R.u1   | with_reducible apply R.tup   | with_reducible apply R.lst   | with_reducible apply R.call   | with_reducible apply R.callB   | with_reducible apply R.gtup   | with_reducible apply R.gnil   | with_reducible apply R.seq   | with_reducible apply R.asg   | with_reducible apply R.ret   | with_reducible apply R.next   | with_reducible apply R.drop   | with_reducible apply R.par   | with_reducible apply R.par2   | with_reducible apply R.ifs   | with_reducible apply R.tif   | with_reducible apply R.test   | with_reducible apply R.tb'   | with_reducible apply R.isbl   | with_reducible apply R.cmp   | with_reducible apply R.t2i   | with_reducible apply R.intp   | with_reducible apply R.and   | with_reducible apply R.or   | with_reducible apply R.not   | with_reducible apply R.andV   | with_reducible apply R.orV   | with_reducible apply R.notV   | with_reducible apply R.chain   | with_reducible apply R.tupL   | with_reducible apply R.lstL   | with_reducible apply R.cat   | with_reducible apply R.isiT   | with_reducible apply R.isiTup   | with_reducible apply R.isiLst   | with_reducible apply R.nwT   | with_reducible apply R.nwL   | ((with_reducible apply R.mt); intro HN tn sn nn ht)   | ((with_reducible apply R.ml); intro HN tn sn nn ht)   | ((with_reducible apply R.ne4); focus ((repeat' (first | with_reducible assumption | with_reducible apply hU | ((with_reducible apply SqT.of); with_reducible assumption) | ((with_reducible apply same_seqT); with_reducible assumption) | ((with_reducible apply kp_seqT); with_reducible assumption) | ((with_reducible apply Dw.same); with_reducible assumption))); done))   | ((with_reducible apply R.ne3); focus ((repeat' (first | with_reducible assumption | with_reducible apply hU | ((with_reducible apply SqT.of); with_reducible assumption) | ((with_reducible apply same_seqT); with_reducible assumption) | ((with_reducible apply kp_seqT); with_reducible assumption) | ((with_reducible apply Dw.same); with_reducible assumption))); done))   | ((with_reducible apply R.ne2); focus ((repeat' (first | with_reducible assumption | with_reducible apply hU | ((with_reducible apply SqT.of); with_reducible assumption) | ((with_reducible apply same_seqT); with_reducible assumption) | ((with_reducible apply kp_seqT); with_reducible assumption) | ((with_reducible apply Dw.same); with_reducible assumption))); done))   | ((with_reducible apply R.eq4); focus ((repeat' (first | with_reducible assumption | with_reducible apply hU | ((with_reducible apply SqT.of); with_reducible assumption) | ((with_reducible apply same_seqT); with_reducible assumption) | ((with_reducible apply kp_seqT); with_reducible assumption) | ((with_reducible apply Dw.same); with_reducible assumption))); done))   | ((with_reducible apply R.eq3); focus ((repeat' (first | with_reducible assumption | with_reducible apply hU | ((with_reducible apply SqT.of); with_reducible assumption) | ((with_reducible apply same_seqT); with_reducible assumption) | ((with_reducible apply kp_seqT); with_reducible assumption) | ((with_reducible apply Dw.same); with_reducible assumption))); done))   | ((with_reducible apply R.eq2); focus ((repeat' (first | with_reducible assumption | with_reducible apply hU | ((with_reducible apply SqT.of); with_reducible assumption) | ((with_reducible apply same_seqT); with_reducible assumption) | ((with_reducible apply kp_seqT); with_reducible assumption) | ((with_reducible apply Dw.same); with_reducible assumption))); done))   | with_reducible apply uLawNext   | with_reducible apply uLawWide   | with_reducible apply uLawChange   | with_reducible apply uMultiply   | with_reducible apply uDeterminant   | with_reducible apply uApply   | with_reducible apply uNegative   | with_reducible apply uLawAt   | with_reducible apply uLawMul   | with_reducible apply uInverse   | ((with_reducible apply R.nw); intro HN tn sn ht)   | with_reducible apply iteT   | with_reducible apply iteF   | ((with_reducible apply SqT.of); with_reducible assumption)   | ((with_reducible apply SqL.of); with_reducible assumption)   | ((with_reducible apply same_seqT); with_reducible assumption)   | ((with_reducible apply sameB); with_reducible assumption)   | ((with_reducible apply same_at); with_reducible assumption)   | ((with_reducible apply kp_seqT); with_reducible assumption)   | ((with_reducible apply Same.seq); with_reducible assumption)   | ((with_reducible apply Kp.seqL); with_reducible assumption)   | ((with_reducible apply fresh_ne); with_reducible assumption)   | ((with_reducible apply Dw.same); with_reducible assumption)   | ((with_reducible apply R.isEq); exact eq_true (by first | decide | omega))   | ((with_reducible apply R.isLt); first | decide | omega)   | ((with_reducible apply R.isLtI); first | decide | omega)   | ((with_reducible apply R.isLeI); first | decide | omega)   | ((with_reducible apply R.cdiv); exact rfl)   | ((with_reducible apply R.cpow); exact rfl)   | with_reducible apply hU   | ((with_reducible apply wayNF); first | exact rfl | exact ⟨rfl, rfl⟩ | exact ⟨rfl, rfl, rfl⟩ | exact ⟨rfl, rfl, rfl, rfl⟩)   | with_reducible apply R.forE   | with_reducible apply R.rng1   | with_reducible apply R.rng2   | with_reducible apply R.rg1   | with_reducible apply R.rg2   | with_reducible apply R.lcE   | with_reducible apply R.itup   | with_reducible apply R.ilst   )))) (x1 := 1) (x2 := 0) (x3 := 0) (x4 := 1) ?_ ?_
    · exact mpw_turn (t - 4) 500
    have hdet' : c1 * c4 - c2 * c3 = 1 ∨ c1 * c4 - c2 * c3 = -1 := hdet
    repeat' (first
      | with_reducible apply R.var
      | ((with_reducible apply R.isEq); exact rfl)
      | with_reducible apply R.op
      | with_reducible apply R.i2
      | with_reducible apply R.i0
      | with_reducible apply R.con
      | with_reducible apply R.cons
      | with_reducible apply R.nil
      | with_reducible apply R.gcons
      | with_reducible apply R.gname
      | ((with_reducible apply R.ixT); (focus ((repeat' (first | with_reducible assumption | with_reducible apply hU | ((with_reducible apply SqT.of); with_reducible assumption) | ((with_reducible apply same_seqT); with_reducible assumption) | ((with_reducible apply kp_seqT); with_reducible assumption) | ((with_reducible apply Dw.same); with_reducible assumption))); done)); exact rfl)
      | ((with_reducible apply R.ixL); (focus ((repeat' (first | with_reducible assumption | ((with_reducible apply SqL.of); with_reducible assumption) | ((with_reducible apply Same.seq); with_reducible assumption) | ((with_reducible apply Kp.seqL); with_reducible assumption) | ((with_reducible apply fresh_ne); with_reducible assumption) | ((with_reducible apply Dw.same); with_reducible assumption))); done)); exact rfl)
      | with_reducible assumption
      | with_reducible apply Bd.mulW
      | with_reducible apply Bd.mul
      | with_reducible apply Bd.add
      | with_reducible apply Bd.sub
      | ((with_reducible apply Bd.l8); exact eq_true (by decide))
      | ((with_reducible apply Bd.lit); exact eq_true (by decide))
      | with_reducible apply Bd.neg
      | with_reducible apply Bd.div
      | ((with_reducible apply Bd.om); omega)
      | ((with_reducible apply R.isLe); first | decide | omega)
      | with_reducible apply R.un
      | with_reducible apply R.u1
      | with_reducible apply R.tup
      | with_reducible apply R.lst
      | with_reducible apply R.call
      | with_reducible apply R.callB
      | with_reducible apply R.gtup
      | with_reducible apply R.gnil
      | with_reducible apply R.seq
      | with_reducible apply R.asg
      | with_reducible apply R.ret
      | with_reducible apply R.next
      | with_reducible apply R.drop
      | with_reducible apply R.par
      | with_reducible apply R.par2
      | with_reducible apply R.ifs
      | with_reducible apply R.tif
      | with_reducible apply R.test
      | with_reducible apply R.tb'
      | with_reducible apply R.isbl
      | with_reducible apply R.cmp
      | with_reducible apply R.t2i
      | with_reducible apply R.intp
      | with_reducible apply R.and
      | with_reducible apply R.or
      | with_reducible apply R.not
      | with_reducible apply R.andV
      | with_reducible apply R.orV
      | with_reducible apply R.notV
      | with_reducible apply R.chain
      | with_reducible apply R.tupL
      | with_reducible apply R.lstL
      | with_reducible apply R.cat
      | with_reducible apply R.isiT
      | with_reducible apply R.isiTup
      | with_reducible apply R.isiLst
      | with_reducible apply R.nwT
      | with_reducible apply R.nwL
      | ((with_reducible apply R.mt); intro HN tn sn nn ht)
      | ((with_reducible apply R.ml); intro HN tn sn nn ht)
      | ((with_reducible apply R.ne4); focus ((repeat' (first | with_reducible assumption | with_reducible apply hU | ((with_reducible apply SqT.of); with_reducible assumption) | ((with_reducible apply same_seqT); with_reducible assumption) | ((with_reducible apply kp_seqT); with_reducible assumption) | ((with_reducible apply Dw.same); with_reducible assumption))); done))
      | ((with_reducible apply R.ne3); focus ((repeat' (first | with_reducible assumption | with_reducible apply hU | ((with_reducible apply SqT.of); with_reducible assumption) | ((with_reducible apply same_seqT); with_reducible assumption) | ((with_reducible apply kp_seqT); with_reducible assumption) | ((with_reducible apply Dw.same); with_reducible assumption))); done))
      | ((with_reducible apply R.ne2); focus ((repeat' (first | with_reducible assumption | with_reducible apply hU | ((with_reducible apply SqT.of); with_reducible assumption) | ((with_reducible apply same_seqT); with_reducible assumption) | ((with_reducible apply kp_seqT); with_reducible assumption) | ((with_reducible apply Dw.same); with_reducible assumption))); done))
      | ((with_reducible apply R.eq4); focus ((repeat' (first | with_reducible assumption | with_reducible apply hU | ((with_reducible apply SqT.of); with_reducible assumption) | ((with_reducible apply same_seqT); with_reducible assumption) | ((with_reducible apply kp_seqT); with_reducible assumption) | ((with_reducible apply Dw.same); with_reducible assumption))); done))
      | ((with_reducible apply R.eq3); focus ((repeat' (first | with_reducible assumption | with_reducible apply hU | ((with_reducible apply SqT.of); with_reducible assumption) | ((with_reducible apply same_seqT); with_reducible assumption) | ((with_reducible apply kp_seqT); with_reducible assumption) | ((with_reducible apply Dw.same); with_reducible assumption))); done))
      | ((with_reducible apply R.eq2); focus ((repeat' (first | with_reducible assumption | with_reducible apply hU | ((with_reducible apply SqT.of); with_reducible assumption) | ((with_reducible apply same_seqT); with_reducible assumption) | ((with_reducible apply kp_seqT); with_reducible assumption) | ((with_reducible apply Dw.same); with_reducible assumption))); done))
      | with_reducible apply uLawNext
      | with_reducible apply uLawWide
      | with_reducible apply uLawChange
      | with_reducible apply uMultiply
      | with_reducible apply uDeterminant
      | with_reducible apply uApply
      | with_reducible apply uNegative
      | with_reducible apply uLawAt
      | with_reducible apply uLawMul
      | with_reducible apply uInverse
      | ((with_reducible apply R.nw); intro HN tn sn ht)
      | with_reducible apply iteT
      | with_reducible apply iteF
      | ((with_reducible apply SqT.of); with_reducible assumption)
      | ((with_reducible apply SqL.of); with_reducible assumption)
      | ((with_reducible apply same_seqT); with_reducible assumption)
      | ((with_reducible apply sameB); with_reducible assumption)
      | ((with_reducible apply same_at); with_reducible assumption)
      | ((with_reducible apply kp_seqT); with_reducible assumption)
      | ((with_reducible apply Same.seq); with_reducible assumption)
      | ((with_reducible apply Kp.seqL); with_reducible assumption)
      | ((with_reducible apply fresh_ne); with_reducible assumption)
      | ((with_reducible apply Dw.same); with_reducible assumption)
      | ((with_reducible apply R.isEq); exact eq_true (by first | decide | omega))
      | ((with_reducible apply R.isLt); first | decide | omega)
      | ((with_reducible apply R.isLtI); first | decide | omega)
      | ((with_reducible apply R.isLeI); first | decide | omega)
      | ((with_reducible apply R.cdiv); exact rfl)
      | ((with_reducible apply R.cpow); exact rfl)
      | with_reducible apply hU
      | ((with_reducible apply wayNF); first | exact rfl | exact ⟨rfl, rfl⟩ | exact ⟨rfl, rfl, rfl⟩ | exact ⟨rfl, rfl, rfl, rfl⟩)
      | with_reducible apply R.forE
      | with_reducible apply R.rng1
      | with_reducible apply R.rng2
      | with_reducible apply R.rg1
      | with_reducible apply R.rg2
      | with_reducible apply R.lcE
      | with_reducible apply R.itup
      | with_reducible apply R.ilst
      )
    refine wayNF ?_ ?_
    · rcases hdet' with h | h <;> (rw [h]; grind)
    repeat' (first
      | with_reducible apply R.var
      | ((with_reducible apply R.isEq); exact rfl)
      | with_reducible apply R.op
      | with_reducible apply R.i2
      | with_reducible apply R.i0
      | with_reducible apply R.con
      | with_reducible apply R.cons
      | with_reducible apply R.nil
      | with_reducible apply R.gcons
      | with_reducible apply R.gname
      | ((with_reducible apply R.ixT); (focus ((repeat' (first | with_reducible assumption | with_reducible apply hU | ((with_reducible apply SqT.of); with_reducible assumption) | ((with_reducible apply same_seqT); with_reducible assumption) | ((with_reducible apply kp_seqT); with_reducible assumption) | ((with_reducible apply Dw.same); with_reducible assumption))); done)); exact rfl)
      | ((with_reducible apply R.ixL); (focus ((repeat' (first | with_reducible assumption | ((with_reducible apply SqL.of); with_reducible assumption) | ((with_reducible apply Same.seq); with_reducible assumption) | ((with_reducible apply Kp.seqL); with_reducible assumption) | ((with_reducible apply fresh_ne); with_reducible assumption) | ((with_reducible apply Dw.same); with_reducible assumption))); done)); exact rfl)
      | with_reducible assumption
      | with_reducible apply Bd.mulW
      | with_reducible apply Bd.mul
      | with_reducible apply Bd.add
      | with_reducible apply Bd.sub
      | ((with_reducible apply Bd.l8); exact eq_true (by decide))
      | ((with_reducible apply Bd.lit); exact eq_true (by decide))
      | with_reducible apply Bd.neg
      | with_reducible apply Bd.div
      | ((with_reducible apply Bd.om); omega)
      | ((with_reducible apply R.isLe); first | decide | omega)
      | with_reducible apply R.un
      | with_reducible apply R.u1
      | with_reducible apply R.tup
      | with_reducible apply R.lst
      | with_reducible apply R.call
      | with_reducible apply R.callB
      | with_reducible apply R.gtup
      | with_reducible apply R.gnil
      | with_reducible apply R.seq
      | with_reducible apply R.asg
      | with_reducible apply R.ret
      | with_reducible apply R.next
      | with_reducible apply R.drop
      | with_reducible apply R.par
      | with_reducible apply R.par2
      | with_reducible apply R.ifs
      | with_reducible apply R.tif
      | with_reducible apply R.test
      | with_reducible apply R.tb'
      | with_reducible apply R.isbl
      | with_reducible apply R.cmp
      | with_reducible apply R.t2i
      | with_reducible apply R.intp
      | with_reducible apply R.and
      | with_reducible apply R.or
      | with_reducible apply R.not
      | with_reducible apply R.andV
      | with_reducible apply R.orV
      | with_reducible apply R.notV
      | with_reducible apply R.chain
      | with_reducible apply R.tupL
      | with_reducible apply R.lstL
      | with_reducible apply R.cat
      | with_reducible apply R.isiT
      | with_reducible apply R.isiTup
      | with_reducible apply R.isiLst
      | with_reducible apply R.nwT
      | with_reducible apply R.nwL
      | ((with_reducible apply R.mt); intro HN tn sn nn ht)
      | ((with_reducible apply R.ml); intro HN tn sn nn ht)
      | ((with_reducible apply R.ne4); focus ((repeat' (first | with_reducible assumption | with_reducible apply hU | ((with_reducible apply SqT.of); with_reducible assumption) | ((with_reducible apply same_seqT); with_reducible assumption) | ((with_reducible apply kp_seqT); with_reducible assumption) | ((with_reducible apply Dw.same); with_reducible assumption))); done))
      | ((with_reducible apply R.ne3); focus ((repeat' (first | with_reducible assumption | with_reducible apply hU | ((with_reducible apply SqT.of); with_reducible assumption) | ((with_reducible apply same_seqT); with_reducible assumption) | ((with_reducible apply kp_seqT); with_reducible assumption) | ((with_reducible apply Dw.same); with_reducible assumption))); done))
      | ((with_reducible apply R.ne2); focus ((repeat' (first | with_reducible assumption | with_reducible apply hU | ((with_reducible apply SqT.of); with_reducible assumption) | ((with_reducible apply same_seqT); with_reducible assumption) | ((with_reducible apply kp_seqT); with_reducible assumption) | ((with_reducible apply Dw.same); with_reducible assumption))); done))
      | ((with_reducible apply R.eq4); focus ((repeat' (first | with_reducible assumption | with_reducible apply hU | ((with_reducible apply SqT.of); with_reducible assumption) | ((with_reducible apply same_seqT); with_reducible assumption) | ((with_reducible apply kp_seqT); with_reducible assumption) | ((with_reducible apply Dw.same); with_reducible assumption))); done))
      | ((with_reducible apply R.eq3); focus ((repeat' (first | with_reducible assumption | with_reducible apply hU | ((with_reducible apply SqT.of); with_reducible assumption) | ((with_reducible apply same_seqT); with_reducible assumption) | ((with_reducible apply kp_seqT); with_reducible assumption) | ((with_reducible apply Dw.same); with_reducible assumption))); done))
      | ((with_reducible apply R.eq2); focus ((repeat' (first | with_reducible assumption | with_reducible apply hU | ((with_reducible apply SqT.of); with_reducible assumption) | ((with_reducible apply same_seqT); with_reducible assumption) | ((with_reducible apply kp_seqT); with_reducible assumption) | ((with_reducible apply Dw.same); with_reducible assumption))); done))
      | with_reducible apply uLawNext
      | with_reducible apply uLawWide
      | with_reducible apply uLawChange
      | with_reducible apply uMultiply
      | with_reducible apply uDeterminant
      | with_reducible apply uApply
      | with_reducible apply uNegative
      | with_reducible apply uLawAt
      | with_reducible apply uLawMul
      | with_reducible apply uInverse
      | ((with_reducible apply R.nw); intro HN tn sn ht)
      | with_reducible apply iteT
      | with_reducible apply iteF
      | ((with_reducible apply SqT.of); with_reducible assumption)
      | ((with_reducible apply SqL.of); with_reducible assumption)
      | ((with_reducible apply same_seqT); with_reducible assumption)
      | ((with_reducible apply sameB); with_reducible assumption)
      | ((with_reducible apply same_at); with_reducible assumption)
      | ((with_reducible apply kp_seqT); with_reducible assumption)
      | ((with_reducible apply Same.seq); with_reducible assumption)
      | ((with_reducible apply Kp.seqL); with_reducible assumption)
      | ((with_reducible apply fresh_ne); with_reducible assumption)
      | ((with_reducible apply Dw.same); with_reducible assumption)
      | ((with_reducible apply R.isEq); exact eq_true (by first | decide | omega))
      | ((with_reducible apply R.isLt); first | decide | omega)
      | ((with_reducible apply R.isLtI); first | decide | omega)
      | ((with_reducible apply R.isLeI); first | decide | omega)
      | ((with_reducible apply R.cdiv); exact rfl)
      | ((with_reducible apply R.cpow); exact rfl)
      | with_reducible apply hU
      | ((with_reducible apply wayNF); first | exact rfl | exact ⟨rfl, rfl⟩ | exact ⟨rfl, rfl, rfl⟩ | exact ⟨rfl, rfl, rfl, rfl⟩)
      | with_reducible apply R.forE
      | with_reducible apply R.rng1
      | with_reducible apply R.rng2
      | with_reducible apply R.rg1
      | with_reducible apply R.rg2
      | with_reducible apply R.lcE
      | with_reducible apply R.itup
      | with_reducible apply R.ilst
      )
    refine wayNF ?_ ?_
    · rcases hdet' with h | h <;> (rw [h]; grind)
    repeat' (first
      | with_reducible apply R.var
      | ((with_reducible apply R.isEq); exact rfl)
      | with_reducible apply R.op
      | with_reducible apply R.i2
      | with_reducible apply R.i0
      | with_reducible apply R.con
      | with_reducible apply R.cons
      | with_reducible apply R.nil
      | with_reducible apply R.gcons
      | with_reducible apply R.gname
      | ((with_reducible apply R.ixT); (focus ((repeat' (first | with_reducible assumption | with_reducible apply hU | ((with_reducible apply SqT.of); with_reducible assumption) | ((with_reducible apply same_seqT); with_reducible assumption) | ((with_reducible apply kp_seqT); with_reducible assumption) | ((with_reducible apply Dw.same); with_reducible assumption))); done)); exact rfl)
      | ((with_reducible apply R.ixL); (focus ((repeat' (first | with_reducible assumption | ((with_reducible apply SqL.of); with_reducible assumption) | ((with_reducible apply Same.seq); with_reducible assumption) | ((with_reducible apply Kp.seqL); with_reducible assumption) | ((with_reducible apply fresh_ne); with_reducible assumption) | ((with_reducible apply Dw.same); with_reducible assumption))); done)); exact rfl)
      | with_reducible assumption
      | with_reducible apply Bd.mulW
      | with_reducible apply Bd.mul
      | with_reducible apply Bd.add
      | with_reducible apply Bd.sub
      | ((with_reducible apply Bd.l8); exact eq_true (by decide))
      | ((with_reducible apply Bd.lit); exact eq_true (by decide))
      | with_reducible apply Bd.neg
      | with_reducible apply Bd.div
      | ((with_reducible apply Bd.om); omega)
      | ((with_reducible apply R.isLe); first | decide | omega)
      | with_reducible apply R.un
      | with_reducible apply R.u1
      | with_reducible apply R.tup
      | with_reducible apply R.lst
      | with_reducible apply R.call
      | with_reducible apply R.callB
      | with_reducible apply R.gtup
      | with_reducible apply R.gnil
      | with_reducible apply R.seq
      | with_reducible apply R.asg
      | with_reducible apply R.ret
      | with_reducible apply R.next
      | with_reducible apply R.drop
      | with_reducible apply R.par
      | with_reducible apply R.par2
      | with_reducible apply R.ifs
      | with_reducible apply R.tif
      | with_reducible apply R.test
      | with_reducible apply R.tb'
      | with_reducible apply R.isbl
      | with_reducible apply R.cmp
      | with_reducible apply R.t2i
      | with_reducible apply R.intp
      | with_reducible apply R.and
      | with_reducible apply R.or
      | with_reducible apply R.not
      | with_reducible apply R.andV
      | with_reducible apply R.orV
      | with_reducible apply R.notV
      | with_reducible apply R.chain
      | with_reducible apply R.tupL
      | with_reducible apply R.lstL
      | with_reducible apply R.cat
      | with_reducible apply R.isiT
      | with_reducible apply R.isiTup
      | with_reducible apply R.isiLst
      | with_reducible apply R.nwT
      | with_reducible apply R.nwL
      | ((with_reducible apply R.mt); intro HN tn sn nn ht)
      | ((with_reducible apply R.ml); intro HN tn sn nn ht)
      | ((with_reducible apply R.ne4); focus ((repeat' (first | with_reducible assumption | with_reducible apply hU | ((with_reducible apply SqT.of); with_reducible assumption) | ((with_reducible apply same_seqT); with_reducible assumption) | ((with_reducible apply kp_seqT); with_reducible assumption) | ((with_reducible apply Dw.same); with_reducible assumption))); done))
      | ((with_reducible apply R.ne3); focus ((repeat' (first | with_reducible assumption | with_reducible apply hU | ((with_reducible apply SqT.of); with_reducible assumption) | ((with_reducible apply same_seqT); with_reducible assumption) | ((with_reducible apply kp_seqT); with_reducible assumption) | ((with_reducible apply Dw.same); with_reducible assumption))); done))
      | ((with_reducible apply R.ne2); focus ((repeat' (first | with_reducible assumption | with_reducible apply hU | ((with_reducible apply SqT.of); with_reducible assumption) | ((with_reducible apply same_seqT); with_reducible assumption) | ((with_reducible apply kp_seqT); with_reducible assumption) | ((with_reducible apply Dw.same); with_reducible assumption))); done))
      | ((with_reducible apply R.eq4); focus ((repeat' (first | with_reducible assumption | with_reducible apply hU | ((with_reducible apply SqT.of); with_reducible assumption) | ((with_reducible apply same_seqT); with_reducible assumption) | ((with_reducible apply kp_seqT); with_reducible assumption) | ((with_reducible apply Dw.same); with_reducible assumption))); done))
      | ((with_reducible apply R.eq3); focus ((repeat' (first | with_reducible assumption | with_reducible apply hU | ((with_reducible apply SqT.of); with_reducible assumption) | ((with_reducible apply same_seqT); with_reducible assumption) | ((with_reducible apply kp_seqT); with_reducible assumption) | ((with_reducible apply Dw.same); with_reducible assumption))); done))
      | ((with_reducible apply R.eq2); focus ((repeat' (first | with_reducible assumption | with_reducible apply hU | ((with_reducible apply SqT.of); with_reducible assumption) | ((with_reducible apply same_seqT); with_reducible assumption) | ((with_reducible apply kp_seqT); with_reducible assumption) | ((with_reducible apply Dw.same); with_reducible assumption))); done))
      | with_reducible apply uLawNext
      | with_reducible apply uLawWide
      | with_reducible apply uLawChange
      | with_reducible apply uMultiply
      | with_reducible apply uDeterminant
      | with_reducible apply uApply
      | with_reducible apply uNegative
      | with_reducible apply uLawAt
      | with_reducible apply uLawMul
      | with_reducible apply uInverse
      | ((with_reducible apply R.nw); intro HN tn sn ht)
      | with_reducible apply iteT
      | with_reducible apply iteF
      | ((with_reducible apply SqT.of); with_reducible assumption)
      | ((with_reducible apply SqL.of); with_reducible assumption)
      | ((with_reducible apply same_seqT); with_reducible assumption)
      | ((with_reducible apply sameB); with_reducible assumption)
      | ((with_reducible apply same_at); with_reducible assumption)
      | ((with_reducible apply kp_seqT); with_reducible assumption)
      | ((with_reducible apply Same.seq); with_reducible assumption)
      | ((with_reducible apply Kp.seqL); with_reducible assumption)
      | ((with_reducible apply fresh_ne); with_reducible assumption)
      | ((with_reducible apply Dw.same); with_reducible assumption)
      | ((with_reducible apply R.isEq); exact eq_true (by first | decide | omega))
      | ((with_reducible apply R.isLt); first | decide | omega)
      | ((with_reducible apply R.isLtI); first | decide | omega)
      | ((with_reducible apply R.isLeI); first | decide | omega)
      | ((with_reducible apply R.cdiv); exact rfl)
      | ((with_reducible apply R.cpow); exact rfl)
      | with_reducible apply hU
      | ((with_reducible apply wayNF); first | exact rfl | exact ⟨rfl, rfl⟩ | exact ⟨rfl, rfl, rfl⟩ | exact ⟨rfl, rfl, rfl, rfl⟩)
      | with_reducible apply R.forE
      | with_reducible apply R.rng1
      | with_reducible apply R.rng2
      | with_reducible apply R.rg1
      | with_reducible apply R.rg2
      | with_reducible apply R.lcE
      | with_reducible apply R.itup
      | with_reducible apply R.ilst
      )
    intro r1 H11 r1a r1b d11 k11
    repeat' (first
      | with_reducible apply R.var
      | ((with_reducible apply R.isEq); exact rfl)
      | with_reducible apply R.op
      | with_reducible apply R.i2
      | with_reducible apply R.i0
      | with_reducible apply R.con
      | with_reducible apply R.cons
      | with_reducible apply R.nil
      | with_reducible apply R.gcons
      | with_reducible apply R.gname
      | ((with_reducible apply R.ixT); (focus ((repeat' (first | with_reducible assumption | with_reducible apply hU | ((with_reducible apply SqT.of); with_reducible assumption) | ((with_reducible apply same_seqT); with_reducible assumption) | ((with_reducible apply kp_seqT); with_reducible assumption) | ((with_reducible apply Dw.same); with_reducible assumption))); done)); exact rfl)
      | ((with_reducible apply R.ixL); (focus ((repeat' (first | with_reducible assumption | ((with_reducible apply SqL.of); with_reducible assumption) | ((with_reducible apply Same.seq); with_reducible assumption) | ((with_reducible apply Kp.seqL); with_reducible assumption) | ((with_reducible apply fresh_ne); with_reducible assumption) | ((with_reducible apply Dw.same); with_reducible assumption))); done)); exact rfl)
      | with_reducible assumption
      | with_reducible apply Bd.mulW
      | with_reducible apply Bd.mul
      | with_reducible apply Bd.add
      | with_reducible apply Bd.sub
      | ((with_reducible apply Bd.l8); exact eq_true (by decide))
      | ((with_reducible apply Bd.lit); exact eq_true (by decide))
      | with_reducible apply Bd.neg
      | with_reducible apply Bd.div
      | ((with_reducible apply Bd.om); omega)
      | ((with_reducible apply R.isLe); first | decide | omega)
      | with_reducible apply R.un
      | with_reducible apply R.u1
      | with_reducible apply R.tup
      | with_reducible apply R.lst
      | with_reducible apply R.call
      | with_reducible apply R.callB
      | with_reducible apply R.gtup
      | with_reducible apply R.gnil
      | with_reducible apply R.seq
      | with_reducible apply R.asg
      | with_reducible apply R.ret
      | with_reducible apply R.next
      | with_reducible apply R.drop
      | with_reducible apply R.par
      | with_reducible apply R.par2
      | with_reducible apply R.ifs
      | with_reducible apply R.tif
      | with_reducible apply R.test
      | with_reducible apply R.tb'
      | with_reducible apply R.isbl
      | with_reducible apply R.cmp
      | with_reducible apply R.t2i
      | with_reducible apply R.intp
      | with_reducible apply R.and
      | with_reducible apply R.or
      | with_reducible apply R.not
      | with_reducible apply R.andV
      | with_reducible apply R.orV
      | with_reducible apply R.notV
      | with_reducible apply R.chain
      | with_reducible apply R.tupL
      | with_reducible apply R.lstL
      | with_reducible apply R.cat
      | with_reducible apply R.isiT
      | with_reducible apply R.isiTup
      | with_reducible apply R.isiLst
      | with_reducible apply R.nwT
      | with_reducible apply R.nwL
      | ((with_reducible apply R.mt); intro HN tn sn nn ht)
      | ((with_reducible apply R.ml); intro HN tn sn nn ht)
      | ((with_reducible apply R.ne4); focus ((repeat' (first | with_reducible assumption | with_reducible apply hU | ((with_reducible apply SqT.of); with_reducible assumption) | ((with_reducible apply same_seqT); with_reducible assumption) | ((with_reducible apply kp_seqT); with_reducible assumption) | ((with_reducible apply Dw.same); with_reducible assumption))); done))
      | ((with_reducible apply R.ne3); focus ((repeat' (first | with_reducible assumption | with_reducible apply hU | ((with_reducible apply SqT.of); with_reducible assumption) | ((with_reducible apply same_seqT); with_reducible assumption) | ((with_reducible apply kp_seqT); with_reducible assumption) | ((with_reducible apply Dw.same); with_reducible assumption))); done))
      | ((with_reducible apply R.ne2); focus ((repeat' (first | with_reducible assumption | with_reducible apply hU | ((with_reducible apply SqT.of); with_reducible assumption) | ((with_reducible apply same_seqT); with_reducible assumption) | ((with_reducible apply kp_seqT); with_reducible assumption) | ((with_reducible apply Dw.same); with_reducible assumption))); done))
      | ((with_reducible apply R.eq4); focus ((repeat' (first | with_reducible assumption | with_reducible apply hU | ((with_reducible apply SqT.of); with_reducible assumption) | ((with_reducible apply same_seqT); with_reducible assumption) | ((with_reducible apply kp_seqT); with_reducible assumption) | ((with_reducible apply Dw.same); with_reducible assumption))); done))
      | ((with_reducible apply R.eq3); focus ((repeat' (first | with_reducible assumption | with_reducible apply hU | ((with_reducible apply SqT.of); with_reducible assumption) | ((with_reducible apply same_seqT); with_reducible assumption) | ((with_reducible apply kp_seqT); with_reducible assumption) | ((with_reducible apply Dw.same); with_reducible assumption))); done))
      | ((with_reducible apply R.eq2); focus ((repeat' (first | with_reducible assumption | with_reducible apply hU | ((with_reducible apply SqT.of); with_reducible assumption) | ((with_reducible apply same_seqT); with_reducible assumption) | ((with_reducible apply kp_seqT); with_reducible assumption) | ((with_reducible apply Dw.same); with_reducible assumption))); done))
      | with_reducible apply uLawNext
      | with_reducible apply uLawWide
      | with_reducible apply uLawChange
      | with_reducible apply uMultiply
      | with_reducible apply uDeterminant
      | with_reducible apply uApply
      | with_reducible apply uNegative
      | with_reducible apply uLawAt
      | with_reducible apply uLawMul
      | with_reducible apply uInverse
      | ((with_reducible apply R.nw); intro HN tn sn ht)
      | with_reducible apply iteT
      | with_reducible apply iteF
      | ((with_reducible apply SqT.of); with_reducible assumption)
      | ((with_reducible apply SqL.of); with_reducible assumption)
      | ((with_reducible apply same_seqT); with_reducible assumption)
      | ((with_reducible apply sameB); with_reducible assumption)
      | ((with_reducible apply same_at); with_reducible assumption)
      | ((with_reducible apply kp_seqT); with_reducible assumption)
      | ((with_reducible apply Same.seq); with_reducible assumption)
      | ((with_reducible apply Kp.seqL); with_reducible assumption)
      | ((with_reducible apply fresh_ne); with_reducible assumption)
      | ((with_reducible apply Dw.same); with_reducible assumption)
      | ((with_reducible apply R.isEq); exact eq_true (by first | decide | omega))
      | ((with_reducible apply R.isLt); first | decide | omega)
      | ((with_reducible apply R.isLtI); first | decide | omega)
      | ((with_reducible apply R.isLeI); first | decide | omega)
      | ((with_reducible apply R.cdiv); exact rfl)
      | ((with_reducible apply R.cpow); exact rfl)
      | with_reducible apply hU
      | ((with_reducible apply wayNF); first | exact rfl | exact ⟨rfl, rfl⟩ | exact ⟨rfl, rfl, rfl⟩ | exact ⟨rfl, rfl, rfl, rfl⟩)
      | with_reducible apply R.forE
      | with_reducible apply R.rng1
      | with_reducible apply R.rng2
      | with_reducible apply R.rg1
      | with_reducible apply R.rg2
      | with_reducible apply R.lcE
      | with_reducible apply R.itup
      | with_reducible apply R.ilst
      )
    intro r2 H12 r2a r2b d12 k12
    repeat' (first
      | with_reducible apply R.var
      | ((with_reducible apply R.isEq); exact rfl)
      | with_reducible apply R.op
      | with_reducible apply R.i2
      | with_reducible apply R.i0
      | with_reducible apply R.con
      | with_reducible apply R.cons
      | with_reducible apply R.nil
      | with_reducible apply R.gcons
      | with_reducible apply R.gname
      | ((with_reducible apply R.ixT); (focus ((repeat' (first | with_reducible assumption | with_reducible apply hU | ((with_reducible apply SqT.of); with_reducible assumption) | ((with_reducible apply same_seqT); with_reducible assumption) | ((with_reducible apply kp_seqT); with_reducible assumption) | ((with_reducible apply Dw.same); with_reducible assumption))); done)); exact rfl)
      | ((with_reducible apply R.ixL); (focus ((repeat' (first | with_reducible assumption | ((with_reducible apply SqL.of); with_reducible assumption) | ((with_reducible apply Same.seq); with_reducible assumption) | ((with_reducible apply Kp.seqL); with_reducible assumption) | ((with_reducible apply fresh_ne); with_reducible assumption) | ((with_reducible apply Dw.same); with_reducible assumption))); done)); exact rfl)
      | with_reducible assumption
      | with_reducible apply Bd.mulW
      | with_reducible apply Bd.mul
      | with_reducible apply Bd.add
      | with_reducible apply Bd.sub
      | ((with_reducible apply Bd.l8); exact eq_true (by decide))
      | ((with_reducible apply Bd.lit); exact eq_true (by decide))
      | with_reducible apply Bd.neg
      | with_reducible apply Bd.div
      | ((with_reducible apply Bd.om); omega)
      | ((with_reducible apply R.isLe); first | decide | omega)
      | with_reducible apply R.un
      | with_reducible apply R.u1
      | with_reducible apply R.tup
      | with_reducible apply R.lst
      | with_reducible apply R.call
      | with_reducible apply R.callB
      | with_reducible apply R.gtup
      | with_reducible apply R.gnil
      | with_reducible apply R.seq
      | with_reducible apply R.asg
      | with_reducible apply R.ret
      | with_reducible apply R.next
      | with_reducible apply R.drop
      | with_reducible apply R.par
      | with_reducible apply R.par2
      | with_reducible apply R.ifs
      | with_reducible apply R.tif
      | with_reducible apply R.test
      | with_reducible apply R.tb'
      | with_reducible apply R.isbl
      | with_reducible apply R.cmp
      | with_reducible apply R.t2i
      | with_reducible apply R.intp
      | with_reducible apply R.and
      | with_reducible apply R.or
      | with_reducible apply R.not
      | with_reducible apply R.andV
      | with_reducible apply R.orV
      | with_reducible apply R.notV
      | with_reducible apply R.chain
      | with_reducible apply R.tupL
      | with_reducible apply R.lstL
      | with_reducible apply R.cat
      | with_reducible apply R.isiT
      | with_reducible apply R.isiTup
      | with_reducible apply R.isiLst
      | with_reducible apply R.nwT
      | with_reducible apply R.nwL
      | ((with_reducible apply R.mt); intro HN tn sn nn ht)
      | ((with_reducible apply R.ml); intro HN tn sn nn ht)
      | ((with_reducible apply R.ne4); focus ((repeat' (first | with_reducible assumption | with_reducible apply hU | ((with_reducible apply SqT.of); with_reducible assumption) | ((with_reducible apply same_seqT); with_reducible assumption) | ((with_reducible apply kp_seqT); with_reducible assumption) | ((with_reducible apply Dw.same); with_reducible assumption))); done))
      | ((with_reducible apply R.ne3); focus ((repeat' (first | with_reducible assumption | with_reducible apply hU | ((with_reducible apply SqT.of); with_reducible assumption) | ((with_reducible apply same_seqT); with_reducible assumption) | ((with_reducible apply kp_seqT); with_reducible assumption) | ((with_reducible apply Dw.same); with_reducible assumption))); done))
      | ((with_reducible apply R.ne2); focus ((repeat' (first | with_reducible assumption | with_reducible apply hU | ((with_reducible apply SqT.of); with_reducible assumption) | ((with_reducible apply same_seqT); with_reducible assumption) | ((with_reducible apply kp_seqT); with_reducible assumption) | ((with_reducible apply Dw.same); with_reducible assumption))); done))
      | ((with_reducible apply R.eq4); focus ((repeat' (first | with_reducible assumption | with_reducible apply hU | ((with_reducible apply SqT.of); with_reducible assumption) | ((with_reducible apply same_seqT); with_reducible assumption) | ((with_reducible apply kp_seqT); with_reducible assumption) | ((with_reducible apply Dw.same); with_reducible assumption))); done))
      | ((with_reducible apply R.eq3); focus ((repeat' (first | with_reducible assumption | with_reducible apply hU | ((with_reducible apply SqT.of); with_reducible assumption) | ((with_reducible apply same_seqT); with_reducible assumption) | ((with_reducible apply kp_seqT); with_reducible assumption) | ((with_reducible apply Dw.same); with_reducible assumption))); done))
      | ((with_reducible apply R.eq2); focus ((repeat' (first | with_reducible assumption | with_reducible apply hU | ((with_reducible apply SqT.of); with_reducible assumption) | ((with_reducible apply same_seqT); with_reducible assumption) | ((with_reducible apply kp_seqT); with_reducible assumption) | ((with_reducible apply Dw.same); with_reducible assumption))); done))
      | with_reducible apply uLawNext
      | with_reducible apply uLawWide
      | with_reducible apply uLawChange
      | with_reducible apply uMultiply
      | with_reducible apply uDeterminant
      | with_reducible apply uApply
      | with_reducible apply uNegative
      | with_reducible apply uLawAt
      | with_reducible apply uLawMul
      | with_reducible apply uInverse
      | ((with_reducible apply R.nw); intro HN tn sn ht)
      | with_reducible apply iteT
      | with_reducible apply iteF
      | ((with_reducible apply SqT.of); with_reducible assumption)
      | ((with_reducible apply SqL.of); with_reducible assumption)
      | ((with_reducible apply same_seqT); with_reducible assumption)
      | ((with_reducible apply sameB); with_reducible assumption)
      | ((with_reducible apply same_at); with_reducible assumption)
      | ((with_reducible apply kp_seqT); with_reducible assumption)
      | ((with_reducible apply Same.seq); with_reducible assumption)
      | ((with_reducible apply Kp.seqL); with_reducible assumption)
      | ((with_reducible apply fresh_ne); with_reducible assumption)
      | ((with_reducible apply Dw.same); with_reducible assumption)
      | ((with_reducible apply R.isEq); exact eq_true (by first | decide | omega))
      | ((with_reducible apply R.isLt); first | decide | omega)
      | ((with_reducible apply R.isLtI); first | decide | omega)
      | ((with_reducible apply R.isLeI); first | decide | omega)
      | ((with_reducible apply R.cdiv); exact rfl)
      | ((with_reducible apply R.cpow); exact rfl)
      | with_reducible apply hU
      | ((with_reducible apply wayNF); first | exact rfl | exact ⟨rfl, rfl⟩ | exact ⟨rfl, rfl, rfl⟩ | exact ⟨rfl, rfl, rfl, rfl⟩)
      | with_reducible apply R.forE
      | with_reducible apply R.rng1
      | with_reducible apply R.rng2
      | with_reducible apply R.rg1
      | with_reducible apply R.rg2
      | with_reducible apply R.lcE
      | with_reducible apply R.itup
      | with_reducible apply R.ilst
      )
    intro r3 H13 r3a r3b d13 k13
    repeat' (first
      | with_reducible apply R.var
      | ((with_reducible apply R.isEq); exact rfl)
      | with_reducible apply R.op
      | with_reducible apply R.i2
      | with_reducible apply R.i0
      | with_reducible apply R.con
      | with_reducible apply R.cons
      | with_reducible apply R.nil
      | with_reducible apply R.gcons
      | with_reducible apply R.gname
      | ((with_reducible apply R.ixT); (focus ((repeat' (first | with_reducible assumption | with_reducible apply hU | ((with_reducible apply SqT.of); with_reducible assumption) | ((with_reducible apply same_seqT); with_reducible assumption) | ((with_reducible apply kp_seqT); with_reducible assumption) | ((with_reducible apply Dw.same); with_reducible assumption))); done)); exact rfl)
      | ((with_reducible apply R.ixL); (focus ((repeat' (first | with_reducible assumption | ((with_reducible apply SqL.of); with_reducible assumption) | ((with_reducible apply Same.seq); with_reducible assumption) | ((with_reducible apply Kp.seqL); with_reducible assumption) | ((with_reducible apply fresh_ne); with_reducible assumption) | ((with_reducible apply Dw.same); with_reducible assumption))); done)); exact rfl)
      | with_reducible assumption
      | with_reducible apply Bd.mulW
      | with_reducible apply Bd.mul
      | with_reducible apply Bd.add
      | with_reducible apply Bd.sub
      | ((with_reducible apply Bd.l8); exact eq_true (by decide))
      | ((with_reducible apply Bd.lit); exact eq_true (by decide))
      | with_reducible apply Bd.neg
      | with_reducible apply Bd.div
      | ((with_reducible apply Bd.om); omega)
      | ((with_reducible apply R.isLe); first | decide | omega)
      | with_reducible apply R.un
      | with_reducible apply R.u1
      | with_reducible apply R.tup
      | with_reducible apply R.lst
      | with_reducible apply R.call
      | with_reducible apply R.callB
      | with_reducible apply R.gtup
      | with_reducible apply R.gnil
      | with_reducible apply R.seq
      | with_reducible apply R.asg
      | with_reducible apply R.ret
      | with_reducible apply R.next
      | with_reducible apply R.drop
      | with_reducible apply R.par
      | with_reducible apply R.par2
      | with_reducible apply R.ifs
      | with_reducible apply R.tif
      | with_reducible apply R.test
      | with_reducible apply R.tb'
      | with_reducible apply R.isbl
      | with_reducible apply R.cmp
      | with_reducible apply R.t2i
      | with_reducible apply R.intp
      | with_reducible apply R.and
      | with_reducible apply R.or
      | with_reducible apply R.not
      | with_reducible apply R.andV
      | with_reducible apply R.orV
      | with_reducible apply R.notV
      | with_reducible apply R.chain
      | with_reducible apply R.tupL
      | with_reducible apply R.lstL
      | with_reducible apply R.cat
      | with_reducible apply R.isiT
      | with_reducible apply R.isiTup
      | with_reducible apply R.isiLst
      | with_reducible apply R.nwT
      | with_reducible apply R.nwL
      | ((with_reducible apply R.mt); intro HN tn sn nn ht)
      | ((with_reducible apply R.ml); intro HN tn sn nn ht)
      | ((with_reducible apply R.ne4); focus ((repeat' (first | with_reducible assumption | with_reducible apply hU | ((with_reducible apply SqT.of); with_reducible assumption) | ((with_reducible apply same_seqT); with_reducible assumption) | ((with_reducible apply kp_seqT); with_reducible assumption) | ((with_reducible apply Dw.same); with_reducible assumption))); done))
      | ((with_reducible apply R.ne3); focus ((repeat' (first | with_reducible assumption | with_reducible apply hU | ((with_reducible apply SqT.of); with_reducible assumption) | ((with_reducible apply same_seqT); with_reducible assumption) | ((with_reducible apply kp_seqT); with_reducible assumption) | ((with_reducible apply Dw.same); with_reducible assumption))); done))
      | ((with_reducible apply R.ne2); focus ((repeat' (first | with_reducible assumption | with_reducible apply hU | ((with_reducible apply SqT.of); with_reducible assumption) | ((with_reducible apply same_seqT); with_reducible assumption) | ((with_reducible apply kp_seqT); with_reducible assumption) | ((with_reducible apply Dw.same); with_reducible assumption))); done))
      | ((with_reducible apply R.eq4); focus ((repeat' (first | with_reducible assumption | with_reducible apply hU | ((with_reducible apply SqT.of); with_reducible assumption) | ((with_reducible apply same_seqT); with_reducible assumption) | ((with_reducible apply kp_seqT); with_reducible assumption) | ((with_reducible apply Dw.same); with_reducible assumption))); done))
      | ((with_reducible apply R.eq3); focus ((repeat' (first | with_reducible assumption | with_reducible apply hU | ((with_reducible apply SqT.of); with_reducible assumption) | ((with_reducible apply same_seqT); with_reducible assumption) | ((with_reducible apply kp_seqT); with_reducible assumption) | ((with_reducible apply Dw.same); with_reducible assumption))); done))
      | ((with_reducible apply R.eq2); focus ((repeat' (first | with_reducible assumption | with_reducible apply hU | ((with_reducible apply SqT.of); with_reducible assumption) | ((with_reducible apply same_seqT); with_reducible assumption) | ((with_reducible apply kp_seqT); with_reducible assumption) | ((with_reducible apply Dw.same); with_reducible assumption))); done))
      | with_reducible apply uLawNext
      | with_reducible apply uLawWide
      | with_reducible apply uLawChange
      | with_reducible apply uMultiply
      | with_reducible apply uDeterminant
      | with_reducible apply uApply
      | with_reducible apply uNegative
      | with_reducible apply uLawAt
      | with_reducible apply uLawMul
      | with_reducible apply uInverse
      | ((with_reducible apply R.nw); intro HN tn sn ht)
      | with_reducible apply iteT
      | with_reducible apply iteF
      | ((with_reducible apply SqT.of); with_reducible assumption)
      | ((with_reducible apply SqL.of); with_reducible assumption)
      | ((with_reducible apply same_seqT); with_reducible assumption)
      | ((with_reducible apply sameB); with_reducible assumption)
      | ((with_reducible apply same_at); with_reducible assumption)
      | ((with_reducible apply kp_seqT); with_reducible assumption)
      | ((with_reducible apply Same.seq); with_reducible assumption)
      | ((with_reducible apply Kp.seqL); with_reducible assumption)
      | ((with_reducible apply fresh_ne); with_reducible assumption)
      | ((with_reducible apply Dw.same); with_reducible assumption)
      | ((with_reducible apply R.isEq); exact eq_true (by first | decide | omega))
      | ((with_reducible apply R.isLt); first | decide | omega)
      | ((with_reducible apply R.isLtI); first | decide | omega)
      | ((with_reducible apply R.isLeI); first | decide | omega)
      | ((with_reducible apply R.cdiv); exact rfl)
      | ((with_reducible apply R.cpow); exact rfl)
      | with_reducible apply hU
      | ((with_reducible apply wayNF); first | exact rfl | exact ⟨rfl, rfl⟩ | exact ⟨rfl, rfl, rfl⟩ | exact ⟨rfl, rfl, rfl, rfl⟩)
      | with_reducible apply R.forE
      | with_reducible apply R.rng1
      | with_reducible apply R.rng2
      | with_reducible apply R.rg1
      | with_reducible apply R.rg2
      | with_reducible apply R.lcE
      | with_reducible apply R.itup
      | with_reducible apply R.ilst
      )
    refine .inr ⟨_, rfl, ?_⟩
    obtain ⟨nv, hn0, hn1, env⟩ : ∃ v : Int, 0 ≤ v ∧ v < 300 ∧ atI [V.int r1, V.int r2] (if decide (r3 = 0) = true then 1 else 0) = some (.int v) := by
      by_cases z : r3 = 0
      · rw [if_pos (decide_eq_true z)]
        exact ⟨r2, r2a, r2b, rfl⟩
      · rw [if_neg (fun h => z (of_decide_eq_true h))]
        exact ⟨r1, r1a, by omega, rfl⟩
    repeat' (first
      | with_reducible apply R.var
      | ((with_reducible apply R.isEq); exact rfl)
      | with_reducible apply R.op
      | with_reducible apply R.i2
      | with_reducible apply R.i0
      | with_reducible apply R.con
      | with_reducible apply R.cons
      | with_reducible apply R.nil
      | with_reducible apply R.gcons
      | with_reducible apply R.gname
      | ((with_reducible apply R.ixT); (focus ((repeat' (first | with_reducible assumption | with_reducible apply hU | ((with_reducible apply SqT.of); with_reducible assumption) | ((with_reducible apply same_seqT); with_reducible assumption) | ((with_reducible apply kp_seqT); with_reducible assumption) | ((with_reducible apply Dw.same); with_reducible assumption))); done)); exact rfl)
      | ((with_reducible apply R.ixL); (focus ((repeat' (first | with_reducible assumption | ((with_reducible apply SqL.of); with_reducible assumption) | ((with_reducible apply Same.seq); with_reducible assumption) | ((with_reducible apply Kp.seqL); with_reducible assumption) | ((with_reducible apply fresh_ne); with_reducible assumption) | ((with_reducible apply Dw.same); with_reducible assumption))); done)); exact rfl)
      | with_reducible assumption
      | with_reducible apply Bd.mulW
      | with_reducible apply Bd.mul
      | with_reducible apply Bd.add
      | with_reducible apply Bd.sub
      | ((with_reducible apply Bd.l8); exact eq_true (by decide))
      | ((with_reducible apply Bd.lit); exact eq_true (by decide))
      | with_reducible apply Bd.neg
      | with_reducible apply Bd.div
      | ((with_reducible apply Bd.om); omega)
      | ((with_reducible apply R.isLe); first | decide | omega)
      | with_reducible apply R.un
      | with_reducible apply R.u1
      | with_reducible apply R.tup
      | with_reducible apply R.lst
      | with_reducible apply R.call
      | with_reducible apply R.callB
      | with_reducible apply R.gtup
      | with_reducible apply R.gnil
      | with_reducible apply R.seq
      | with_reducible apply R.asg
      | with_reducible apply R.ret
      | with_reducible apply R.next
      | with_reducible apply R.drop
      | with_reducible apply R.par
      | with_reducible apply R.par2
      | with_reducible apply R.ifs
      | with_reducible apply R.tif
      | with_reducible apply R.test
      | with_reducible apply R.tb'
      | with_reducible apply R.isbl
      | with_reducible apply R.cmp
      | with_reducible apply R.t2i
      | with_reducible apply R.intp
      | with_reducible apply R.and
      | with_reducible apply R.or
      | with_reducible apply R.not
      | with_reducible apply R.andV
      | with_reducible apply R.orV
      | with_reducible apply R.notV
      | with_reducible apply R.chain
      | with_reducible apply R.tupL
      | with_reducible apply R.lstL
      | with_reducible apply R.cat
      | with_reducible apply R.isiT
      | with_reducible apply R.isiTup
      | with_reducible apply R.isiLst
      | with_reducible apply R.nwT
      | with_reducible apply R.nwL
      | ((with_reducible apply R.mt); intro HN tn sn nn ht)
      | ((with_reducible apply R.ml); intro HN tn sn nn ht)
      | ((with_reducible apply R.ne4); focus ((repeat' (first | with_reducible assumption | with_reducible apply hU | ((with_reducible apply SqT.of); with_reducible assumption) | ((with_reducible apply same_seqT); with_reducible assumption) | ((with_reducible apply kp_seqT); with_reducible assumption) | ((with_reducible apply Dw.same); with_reducible assumption))); done))
      | ((with_reducible apply R.ne3); focus ((repeat' (first | with_reducible assumption | with_reducible apply hU | ((with_reducible apply SqT.of); with_reducible assumption) | ((with_reducible apply same_seqT); with_reducible assumption) | ((with_reducible apply kp_seqT); with_reducible assumption) | ((with_reducible apply Dw.same); with_reducible assumption))); done))
      | ((with_reducible apply R.ne2); focus ((repeat' (first | with_reducible assumption | with_reducible apply hU | ((with_reducible apply SqT.of); with_reducible assumption) | ((with_reducible apply same_seqT); with_reducible assumption) | ((with_reducible apply kp_seqT); with_reducible assumption) | ((with_reducible apply Dw.same); with_reducible assumption))); done))
      | ((with_reducible apply R.eq4); focus ((repeat' (first | with_reducible assumption | with_reducible apply hU | ((with_reducible apply SqT.of); with_reducible assumption) | ((with_reducible apply same_seqT); with_reducible assumption) | ((with_reducible apply kp_seqT); with_reducible assumption) | ((with_reducible apply Dw.same); with_reducible assumption))); done))
      | ((with_reducible apply R.eq3); focus ((repeat' (first | with_reducible assumption | with_reducible apply hU | ((with_reducible apply SqT.of); with_reducible assumption) | ((with_reducible apply same_seqT); with_reducible assumption) | ((with_reducible apply kp_seqT); with_reducible assumption) | ((with_reducible apply Dw.same); with_reducible assumption))); done))
      | ((with_reducible apply R.eq2); focus ((repeat' (first | with_reducible assumption | with_reducible apply hU | ((with_reducible apply SqT.of); with_reducible assumption) | ((with_reducible apply same_seqT); with_reducible assumption) | ((with_reducible apply kp_seqT); with_reducible assumption) | ((with_reducible apply Dw.same); with_reducible assumption))); done))
      | with_reducible apply uLawNext
      | with_reducible apply uLawWide
      | with_reducible apply uLawChange
      | with_reducible apply uMultiply
      | with_reducible apply uDeterminant
      | with_reducible apply uApply
      | with_reducible apply uNegative
      | with_reducible apply uLawAt
      | with_reducible apply uLawMul
      | with_reducible apply uInverse
      | ((with_reducible apply R.nw); intro HN tn sn ht)
      | with_reducible apply iteT
      | with_reducible apply iteF
      | ((with_reducible apply SqT.of); with_reducible assumption)
      | ((with_reducible apply SqL.of); with_reducible assumption)
      | ((with_reducible apply same_seqT); with_reducible assumption)
      | ((with_reducible apply sameB); with_reducible assumption)
      | ((with_reducible apply same_at); with_reducible assumption)
      | ((with_reducible apply kp_seqT); with_reducible assumption)
      | ((with_reducible apply Same.seq); with_reducible assumption)
      | ((with_reducible apply Kp.seqL); with_reducible assumption)
      | ((with_reducible apply fresh_ne); with_reducible assumption)
      | ((with_reducible apply Dw.same); with_reducible assumption)
      | ((with_reducible apply R.isEq); exact eq_true (by first | decide | omega))
      | ((with_reducible apply R.isLt); first | decide | omega)
      | ((with_reducible apply R.isLtI); first | decide | omega)
      | ((with_reducible apply R.isLeI); first | decide | omega)
      | ((with_reducible apply R.cdiv); exact rfl)
      | ((with_reducible apply R.cpow); exact rfl)
      | with_reducible apply hU
      | ((with_reducible apply wayNF); first | exact rfl | exact ⟨rfl, rfl⟩ | exact ⟨rfl, rfl, rfl⟩ | exact ⟨rfl, rfl, rfl, rfl⟩)
      | with_reducible apply R.forE
      | with_reducible apply R.rng1
      | with_reducible apply R.rng2
      | with_reducible apply R.rg1
      | with_reducible apply R.rg2
      | with_reducible apply R.lcE
      | with_reducible apply R.itup
      | with_reducible apply R.ilst
      )
    refine R.ixL (xs := [V.int r1, V.int r2]) (by (repeat' (first | with_reducible assumption | ((with_reducible apply SqL.of); with_reducible assumption) | ((with_reducible apply Same.seq); with_reducible assumption) | ((with_reducible apply Kp.seqL); with_reducible assumption) | ((with_reducible apply fresh_ne); with_reducible assumption) | ((with_reducible apply Dw.same); with_reducible assumption)))) env ?_
    repeat' (first
      | with_reducible apply R.var
      | ((with_reducible apply R.isEq); exact rfl)
      | with_reducible apply R.op
      | with_reducible apply R.i2
      | with_reducible apply R.i0
      | with_reducible apply R.con
      | with_reducible apply R.cons
      | with_reducible apply R.nil
      | with_reducible apply R.gcons
      | with_reducible apply R.gname
      | ((with_reducible apply R.ixT); (focus ((repeat' (first | with_reducible assumption | with_reducible apply hU | ((with_reducible apply SqT.of); with_reducible assumption) | ((with_reducible apply same_seqT); with_reducible assumption) | ((with_reducible apply kp_seqT); with_reducible assumption) | ((with_reducible apply Dw.same); with_reducible assumption))); done)); exact rfl)
      | ((with_reducible apply R.ixL); (focus ((repeat' (first | with_reducible assumption | ((with_reducible apply SqL.of); with_reducible assumption) | ((with_reducible apply Same.seq); with_reducible assumption) | ((with_reducible apply Kp.seqL); with_reducible assumption) | ((with_reducible apply fresh_ne); with_reducible assumption) | ((with_reducible apply Dw.same); with_reducible assumption))); done)); exact rfl)
      | with_reducible assumption
      | with_reducible apply Bd.mulW
      | with_reducible apply Bd.mul
      | with_reducible apply Bd.add
      | with_reducible apply Bd.sub
      | ((with_reducible apply Bd.l8); exact eq_true (by decide))
      | ((with_reducible apply Bd.lit); exact eq_true (by decide))
      | with_reducible apply Bd.neg
      | with_reducible apply Bd.div
      | ((with_reducible apply Bd.om); omega)
      | ((with_reducible apply R.isLe); first | decide | omega)
      | with_reducible apply R.un
      | with_reducible apply R.u1
      | with_reducible apply R.tup
      | with_reducible apply R.lst
      | with_reducible apply R.call
      | with_reducible apply R.callB
      | with_reducible apply R.gtup
      | with_reducible apply R.gnil
      | with_reducible apply R.seq
      | with_reducible apply R.asg
      | with_reducible apply R.ret
      | with_reducible apply R.next
      | with_reducible apply R.drop
      | with_reducible apply R.par
      | with_reducible apply R.par2
      | with_reducible apply R.ifs
      | with_reducible apply R.tif
      | with_reducible apply R.test
      | with_reducible apply R.tb'
      | with_reducible apply R.isbl
      | with_reducible apply R.cmp
      | with_reducible apply R.t2i
      | with_reducible apply R.intp
      | with_reducible apply R.and
      | with_reducible apply R.or
      | with_reducible apply R.not
      | with_reducible apply R.andV
      | with_reducible apply R.orV
      | with_reducible apply R.notV
      | with_reducible apply R.chain
      | with_reducible apply R.tupL
      | with_reducible apply R.lstL
      | with_reducible apply R.cat
      | with_reducible apply R.isiT
      | with_reducible apply R.isiTup
      | with_reducible apply R.isiLst
      | with_reducible apply R.nwT
      | with_reducible apply R.nwL
      | ((with_reducible apply R.mt); intro HN tn sn nn ht)
      | ((with_reducible apply R.ml); intro HN tn sn nn ht)
      | ((with_reducible apply R.ne4); focus ((repeat' (first | with_reducible assumption | with_reducible apply hU | ((with_reducible apply SqT.of); with_reducible assumption) | ((with_reducible apply same_seqT); with_reducible assumption) | ((with_reducible apply kp_seqT); with_reducible assumption) | ((with_reducible apply Dw.same); with_reducible assumption))); done))
      | ((with_reducible apply R.ne3); focus ((repeat' (first | with_reducible assumption | with_reducible apply hU | ((with_reducible apply SqT.of); with_reducible assumption) | ((with_reducible apply same_seqT); with_reducible assumption) | ((with_reducible apply kp_seqT); with_reducible assumption) | ((with_reducible apply Dw.same); with_reducible assumption))); done))
      | ((with_reducible apply R.ne2); focus ((repeat' (first | with_reducible assumption | with_reducible apply hU | ((with_reducible apply SqT.of); with_reducible assumption) | ((with_reducible apply same_seqT); with_reducible assumption) | ((with_reducible apply kp_seqT); with_reducible assumption) | ((with_reducible apply Dw.same); with_reducible assumption))); done))
      | ((with_reducible apply R.eq4); focus ((repeat' (first | with_reducible assumption | with_reducible apply hU | ((with_reducible apply SqT.of); with_reducible assumption) | ((with_reducible apply same_seqT); with_reducible assumption) | ((with_reducible apply kp_seqT); with_reducible assumption) | ((with_reducible apply Dw.same); with_reducible assumption))); done))
      | ((with_reducible apply R.eq3); focus ((repeat' (first | with_reducible assumption | with_reducible apply hU | ((with_reducible apply SqT.of); with_reducible assumption) | ((with_reducible apply same_seqT); with_reducible assumption) | ((with_reducible apply kp_seqT); with_reducible assumption) | ((with_reducible apply Dw.same); with_reducible assumption))); done))
      | ((with_reducible apply R.eq2); focus ((repeat' (first | with_reducible assumption | with_reducible apply hU | ((with_reducible apply SqT.of); with_reducible assumption) | ((with_reducible apply same_seqT); with_reducible assumption) | ((with_reducible apply kp_seqT); with_reducible assumption) | ((with_reducible apply Dw.same); with_reducible assumption))); done))
      | with_reducible apply uLawNext
      | with_reducible apply uLawWide
      | with_reducible apply uLawChange
      | with_reducible apply uMultiply
      | with_reducible apply uDeterminant
      | with_reducible apply uApply
      | with_reducible apply uNegative
      | with_reducible apply uLawAt
      | with_reducible apply uLawMul
      | with_reducible apply uInverse
      | ((with_reducible apply R.nw); intro HN tn sn ht)
      | with_reducible apply iteT
      | with_reducible apply iteF
      | ((with_reducible apply SqT.of); with_reducible assumption)
      | ((with_reducible apply SqL.of); with_reducible assumption)
      | ((with_reducible apply same_seqT); with_reducible assumption)
      | ((with_reducible apply sameB); with_reducible assumption)
      | ((with_reducible apply same_at); with_reducible assumption)
      | ((with_reducible apply kp_seqT); with_reducible assumption)
      | ((with_reducible apply Same.seq); with_reducible assumption)
      | ((with_reducible apply Kp.seqL); with_reducible assumption)
      | ((with_reducible apply fresh_ne); with_reducible assumption)
      | ((with_reducible apply Dw.same); with_reducible assumption)
      | ((with_reducible apply R.isEq); exact eq_true (by first | decide | omega))
      | ((with_reducible apply R.isLt); first | decide | omega)
      | ((with_reducible apply R.isLtI); first | decide | omega)
      | ((with_reducible apply R.isLeI); first | decide | omega)
      | ((with_reducible apply R.cdiv); exact rfl)
      | ((with_reducible apply R.cpow); exact rfl)
      | with_reducible apply hU
      | ((with_reducible apply wayNF); first | exact rfl | exact ⟨rfl, rfl⟩ | exact ⟨rfl, rfl, rfl⟩ | exact ⟨rfl, rfl, rfl, rfl⟩)
      | with_reducible apply R.forE
      | with_reducible apply R.rng1
      | with_reducible apply R.rng2
      | with_reducible apply R.rg1
      | with_reducible apply R.rg2
      | with_reducible apply R.lcE
      | with_reducible apply R.itup
      | with_reducible apply R.ilst
      )
    have sbN : SqT K HN b [.int c1, .int c2, .int c3, .int c4] := by (repeat' (first | with_reducible assumption | with_reducible apply hU | ((with_reducible apply SqT.of); with_reducible assumption) | ((with_reducible apply same_seqT); with_reducible assumption) | ((with_reducible apply kp_seqT); with_reducible assumption) | ((with_reducible apply Dw.same); with_reducible assumption)))
    refine R.forN (lo := 0) (n := nv.toNat) (fun i σ H' => ∃ (x2 x8 x10 x12 : Option V) (c : Addr), σ = [some (.ref l), some (.ref p), x2, some a3, some a4, some (.int (x - 450)), some (.int (y - 450)), some (.ref b), x8, some (.int nv), x10, some (.ref c), x12] ∧ Same HN H' ∧
        SqT K H' c [.int (mpw (c1, c2, c3, c4) i).1, .int (mpw (c1, c2, c3, c4) i).2.1, .int (mpw (c1, c2, c3, c4) i).2.2.1, .int (mpw (c1, c2, c3, c4) i).2.2.2])
      ⟨_, _, _, _, _, rfl, Same.refl _, SqT.of ht⟩ (fun i σ H' hi hPv => ?_) (fun σ H' hPv => ?_)
    · obtain ⟨x2, x8, x10, x12, c, rfl, sm, sc⟩ := hPv
      obtain ⟨e1, e2, e3, e4⟩ := mpw_bd (m := (c1, c2, c3, c4)) bb1 bb2 bb3 bb4 i
      have sb2 := same_seqT sm sbN
      repeat' (first
        | with_reducible apply R.var
        | ((with_reducible apply R.isEq); exact rfl)
        | with_reducible apply R.op
        | with_reducible apply R.i2
        | with_reducible apply R.i0
        | with_reducible apply R.con
        | with_reducible apply R.cons
        | with_reducible apply R.nil
        | with_reducible apply R.gcons
        | with_reducible apply R.gname
        | ((with_reducible apply R.ixT); (focus ((repeat' (first | with_reducible assumption | with_reducible apply hU | ((with_reducible apply SqT.of); with_reducible assumption) | ((with_reducible apply same_seqT); with_reducible assumption) | ((with_reducible apply kp_seqT); with_reducible assumption) | ((with_reducible apply Dw.same); with_reducible assumption))); done)); exact rfl)
        | ((with_reducible apply R.ixL); (focus ((repeat' (first | with_reducible assumption | ((with_reducible apply SqL.of); with_reducible assumption) | ((with_reducible apply Same.seq); with_reducible assumption) | ((with_reducible apply Kp.seqL); with_reducible assumption) | ((with_reducible apply fresh_ne); with_reducible assumption) | ((with_reducible apply Dw.same); with_reducible assumption))); done)); exact rfl)
        | with_reducible assumption
        | with_reducible apply Bd.mulW
        | with_reducible apply Bd.mul
        | with_reducible apply Bd.add
        | with_reducible apply Bd.sub
        | ((with_reducible apply Bd.l8); exact eq_true (by decide))
        | ((with_reducible apply Bd.lit); exact eq_true (by decide))
        | with_reducible apply Bd.neg
        | with_reducible apply Bd.div
        | ((with_reducible apply Bd.om); omega)
        | ((with_reducible apply R.isLe); first | decide | omega)
        | with_reducible apply R.un
        | with_reducible apply R.u1
        | with_reducible apply R.tup
        | with_reducible apply R.lst
        | with_reducible apply R.call
        | with_reducible apply R.callB
        | with_reducible apply R.gtup
        | with_reducible apply R.gnil
        | with_reducible apply R.seq
        | with_reducible apply R.asg
        | with_reducible apply R.ret
        | with_reducible apply R.next
        | with_reducible apply R.drop
        | with_reducible apply R.par
        | with_reducible apply R.par2
        | with_reducible apply R.ifs
        | with_reducible apply R.tif
        | with_reducible apply R.test
        | with_reducible apply R.tb'
        | with_reducible apply R.isbl
        | with_reducible apply R.cmp
        | with_reducible apply R.t2i
        | with_reducible apply R.intp
        | with_reducible apply R.and
        | with_reducible apply R.or
        | with_reducible apply R.not
        | with_reducible apply R.andV
        | with_reducible apply R.orV
        | with_reducible apply R.notV
        | with_reducible apply R.chain
        | with_reducible apply R.tupL
        | with_reducible apply R.lstL
        | with_reducible apply R.cat
        | with_reducible apply R.isiT
        | with_reducible apply R.isiTup
        | with_reducible apply R.isiLst
        | with_reducible apply R.nwT
        | with_reducible apply R.nwL
        | ((with_reducible apply R.mt); intro HN tn sn nn ht)
        | ((with_reducible apply R.ml); intro HN tn sn nn ht)
        | ((with_reducible apply R.ne4); focus ((repeat' (first | with_reducible assumption | with_reducible apply hU | ((with_reducible apply SqT.of); with_reducible assumption) | ((with_reducible apply same_seqT); with_reducible assumption) | ((with_reducible apply kp_seqT); with_reducible assumption) | ((with_reducible apply Dw.same); with_reducible assumption))); done))
        | ((with_reducible apply R.ne3); focus ((repeat' (first | with_reducible assumption | with_reducible apply hU | ((with_reducible apply SqT.of); with_reducible assumption) | ((with_reducible apply same_seqT); with_reducible assumption) | ((with_reducible apply kp_seqT); with_reducible assumption) | ((with_reducible apply Dw.same); with_reducible assumption))); done))
        | ((with_reducible apply R.ne2); focus ((repeat' (first | with_reducible assumption | with_reducible apply hU | ((with_reducible apply SqT.of); with_reducible assumption) | ((with_reducible apply same_seqT); with_reducible assumption) | ((with_reducible apply kp_seqT); with_reducible assumption) | ((with_reducible apply Dw.same); with_reducible assumption))); done))
        | ((with_reducible apply R.eq4); focus ((repeat' (first | with_reducible assumption | with_reducible apply hU | ((with_reducible apply SqT.of); with_reducible assumption) | ((with_reducible apply same_seqT); with_reducible assumption) | ((with_reducible apply kp_seqT); with_reducible assumption) | ((with_reducible apply Dw.same); with_reducible assumption))); done))
        | ((with_reducible apply R.eq3); focus ((repeat' (first | with_reducible assumption | with_reducible apply hU | ((with_reducible apply SqT.of); with_reducible assumption) | ((with_reducible apply same_seqT); with_reducible assumption) | ((with_reducible apply kp_seqT); with_reducible assumption) | ((with_reducible apply Dw.same); with_reducible assumption))); done))
        | ((with_reducible apply R.eq2); focus ((repeat' (first | with_reducible assumption | with_reducible apply hU | ((with_reducible apply SqT.of); with_reducible assumption) | ((with_reducible apply same_seqT); with_reducible assumption) | ((with_reducible apply kp_seqT); with_reducible assumption) | ((with_reducible apply Dw.same); with_reducible assumption))); done))
        | with_reducible apply uLawNext
        | with_reducible apply uLawWide
        | with_reducible apply uLawChange
        | with_reducible apply uMultiply
        | with_reducible apply uDeterminant
        | with_reducible apply uApply
        | with_reducible apply uNegative
        | with_reducible apply uLawAt
        | with_reducible apply uLawMul
        | with_reducible apply uInverse
        | ((with_reducible apply R.nw); intro HN tn sn ht)
        | with_reducible apply iteT
        | with_reducible apply iteF
        | ((with_reducible apply SqT.of); with_reducible assumption)
        | ((with_reducible apply SqL.of); with_reducible assumption)
        | ((with_reducible apply same_seqT); with_reducible assumption)
        | ((with_reducible apply sameB); with_reducible assumption)
        | ((with_reducible apply same_at); with_reducible assumption)
        | ((with_reducible apply kp_seqT); with_reducible assumption)
        | ((with_reducible apply Same.seq); with_reducible assumption)
        | ((with_reducible apply Kp.seqL); with_reducible assumption)
        | ((with_reducible apply fresh_ne); with_reducible assumption)
        | ((with_reducible apply Dw.same); with_reducible assumption)
        | ((with_reducible apply R.isEq); exact eq_true (by first | decide | omega))
        | ((with_reducible apply R.isLt); first | decide | omega)
        | ((with_reducible apply R.isLtI); first | decide | omega)
        | ((with_reducible apply R.isLeI); first | decide | omega)
        | ((with_reducible apply R.cdiv); exact rfl)
        | ((with_reducible apply R.cpow); exact rfl)
        | with_reducible apply hU
        | ((with_reducible apply wayNF); first | exact rfl | exact ⟨rfl, rfl⟩ | exact ⟨rfl, rfl, rfl⟩ | exact ⟨rfl, rfl, rfl, rfl⟩)
        | with_reducible apply R.forE
        | with_reducible apply R.rng1
        | with_reducible apply R.rng2
        | with_reducible apply R.rg1
        | with_reducible apply R.rg2
        | with_reducible apply R.lcE
        | with_reducible apply R.itup
        | with_reducible apply R.ilst
        )
      exact ⟨_, _, _, _, _, rfl, sm.trans (by assumption), SqT.of ht⟩
    · obtain ⟨x2, x8, x10, x12, c, rfl, sm, sc⟩ := hPv
      obtain ⟨e1, e2, e3, e4⟩ := mpw_bd (m := (c1, c2, c3, c4)) bb1 bb2 bb3 bb4 nv.toNat
      have sb2 := same_seqT sm sbN
      have inv := mpw_inv hdet nv.toNat
      repeat' (first
        | with_reducible apply R.var
        | ((with_reducible apply R.isEq); exact rfl)
        | with_reducible apply R.op
        | with_reducible apply R.i2
        | with_reducible apply R.i0
        | with_reducible apply R.con
        | with_reducible apply R.cons
        | with_reducible apply R.nil
        | with_reducible apply R.gcons
        | with_reducible apply R.gname
        | ((with_reducible apply R.ixT); (focus ((repeat' (first | with_reducible assumption | with_reducible apply hU | ((with_reducible apply SqT.of); with_reducible assumption) | ((with_reducible apply same_seqT); with_reducible assumption) | ((with_reducible apply kp_seqT); with_reducible assumption) | ((with_reducible apply Dw.same); with_reducible assumption))); done)); exact rfl)
        | ((with_reducible apply R.ixL); (focus ((repeat' (first | with_reducible assumption | ((with_reducible apply SqL.of); with_reducible assumption) | ((with_reducible apply Same.seq); with_reducible assumption) | ((with_reducible apply Kp.seqL); with_reducible assumption) | ((with_reducible apply fresh_ne); with_reducible assumption) | ((with_reducible apply Dw.same); with_reducible assumption))); done)); exact rfl)
        | with_reducible assumption
        | with_reducible apply Bd.mulW
        | with_reducible apply Bd.mul
        | with_reducible apply Bd.add
        | with_reducible apply Bd.sub
        | ((with_reducible apply Bd.l8); exact eq_true (by decide))
        | ((with_reducible apply Bd.lit); exact eq_true (by decide))
        | with_reducible apply Bd.neg
        | with_reducible apply Bd.div
        | ((with_reducible apply Bd.om); omega)
        | ((with_reducible apply R.isLe); first | decide | omega)
        | with_reducible apply R.un
        | with_reducible apply R.u1
        | with_reducible apply R.tup
        | with_reducible apply R.lst
        | with_reducible apply R.call
        | with_reducible apply R.callB
        | with_reducible apply R.gtup
        | with_reducible apply R.gnil
        | with_reducible apply R.seq
        | with_reducible apply R.asg
        | with_reducible apply R.ret
        | with_reducible apply R.next
        | with_reducible apply R.drop
        | with_reducible apply R.par
        | with_reducible apply R.par2
        | with_reducible apply R.ifs
        | with_reducible apply R.tif
        | with_reducible apply R.test
        | with_reducible apply R.tb'
        | with_reducible apply R.isbl
        | with_reducible apply R.cmp
        | with_reducible apply R.t2i
        | with_reducible apply R.intp
        | with_reducible apply R.and
        | with_reducible apply R.or
        | with_reducible apply R.not
        | with_reducible apply R.andV
        | with_reducible apply R.orV
        | with_reducible apply R.notV
        | with_reducible apply R.chain
        | with_reducible apply R.tupL
        | with_reducible apply R.lstL
        | with_reducible apply R.cat
        | with_reducible apply R.isiT
        | with_reducible apply R.isiTup
        | with_reducible apply R.isiLst
        | with_reducible apply R.nwT
        | with_reducible apply R.nwL
        | ((with_reducible apply R.mt); intro HN tn sn nn ht)
        | ((with_reducible apply R.ml); intro HN tn sn nn ht)
        | ((with_reducible apply R.ne4); focus ((repeat' (first | with_reducible assumption | with_reducible apply hU | ((with_reducible apply SqT.of); with_reducible assumption) | ((with_reducible apply same_seqT); with_reducible assumption) | ((with_reducible apply kp_seqT); with_reducible assumption) | ((with_reducible apply Dw.same); with_reducible assumption))); done))
        | ((with_reducible apply R.ne3); focus ((repeat' (first | with_reducible assumption | with_reducible apply hU | ((with_reducible apply SqT.of); with_reducible assumption) | ((with_reducible apply same_seqT); with_reducible assumption) | ((with_reducible apply kp_seqT); with_reducible assumption) | ((with_reducible apply Dw.same); with_reducible assumption))); done))
        | ((with_reducible apply R.ne2); focus ((repeat' (first | with_reducible assumption | with_reducible apply hU | ((with_reducible apply SqT.of); with_reducible assumption) | ((with_reducible apply same_seqT); with_reducible assumption) | ((with_reducible apply kp_seqT); with_reducible assumption) | ((with_reducible apply Dw.same); with_reducible assumption))); done))
        | ((with_reducible apply R.eq4); focus ((repeat' (first | with_reducible assumption | with_reducible apply hU | ((with_reducible apply SqT.of); with_reducible assumption) | ((with_reducible apply same_seqT); with_reducible assumption) | ((with_reducible apply kp_seqT); with_reducible assumption) | ((with_reducible apply Dw.same); with_reducible assumption))); done))
        | ((with_reducible apply R.eq3); focus ((repeat' (first | with_reducible assumption | with_reducible apply hU | ((with_reducible apply SqT.of); with_reducible assumption) | ((with_reducible apply same_seqT); with_reducible assumption) | ((with_reducible apply kp_seqT); with_reducible assumption) | ((with_reducible apply Dw.same); with_reducible assumption))); done))
        | ((with_reducible apply R.eq2); focus ((repeat' (first | with_reducible assumption | with_reducible apply hU | ((with_reducible apply SqT.of); with_reducible assumption) | ((with_reducible apply same_seqT); with_reducible assumption) | ((with_reducible apply kp_seqT); with_reducible assumption) | ((with_reducible apply Dw.same); with_reducible assumption))); done))
        | with_reducible apply uLawNext
        | with_reducible apply uLawWide
        | with_reducible apply uLawChange
        | with_reducible apply uMultiply
        | with_reducible apply uDeterminant
        | with_reducible apply uApply
        | with_reducible apply uNegative
        | with_reducible apply uLawAt
        | with_reducible apply uLawMul
        | with_reducible apply uInverse
        | ((with_reducible apply R.nw); intro HN tn sn ht)
        | with_reducible apply iteT
        | with_reducible apply iteF
        | ((with_reducible apply SqT.of); with_reducible assumption)
        | ((with_reducible apply SqL.of); with_reducible assumption)
        | ((with_reducible apply same_seqT); with_reducible assumption)
        | ((with_reducible apply sameB); with_reducible assumption)
        | ((with_reducible apply same_at); with_reducible assumption)
        | ((with_reducible apply kp_seqT); with_reducible assumption)
        | ((with_reducible apply Same.seq); with_reducible assumption)
        | ((with_reducible apply Kp.seqL); with_reducible assumption)
        | ((with_reducible apply fresh_ne); with_reducible assumption)
        | ((with_reducible apply Dw.same); with_reducible assumption)
        | ((with_reducible apply R.isEq); exact eq_true (by first | decide | omega))
        | ((with_reducible apply R.isLt); first | decide | omega)
        | ((with_reducible apply R.isLtI); first | decide | omega)
        | ((with_reducible apply R.isLeI); first | decide | omega)
        | ((with_reducible apply R.cdiv); exact rfl)
        | ((with_reducible apply R.cpow); exact rfl)
        | with_reducible apply hU
        | ((with_reducible apply wayNF); first | exact rfl | exact ⟨rfl, rfl⟩ | exact ⟨rfl, rfl, rfl⟩ | exact ⟨rfl, rfl, rfl, rfl⟩)
        | with_reducible apply R.forE
        | with_reducible apply R.rng1
        | with_reducible apply R.rng2
        | with_reducible apply R.rg1
        | with_reducible apply R.rg2
        | with_reducible apply R.lcE
        | with_reducible apply R.itup
        | with_reducible apply R.ilst
        )
      refine uRaised rfl sb2 (by omega) (by omega) hdet (by (apply bdm; (repeat' (first   | with_reducible apply R.var   | ((with_reducible apply R.isEq); exact rfl)   | with_reducible apply R.op   | with_reducible apply R.i2   | with_reducible apply R.i0   | with_reducible apply R.con   | with_reducible apply R.cons   | with_reducible apply R.nil   | with_reducible apply R.gcons   | with_reducible apply R.gname   | ((with_reducible apply R.ixT); (focus ((repeat' (first | with_reducible assumption | with_reducible apply hU | ((with_reducible apply SqT.of); with_reducible assumption) | ((with_reducible apply same_seqT); with_reducible assumption) | ((with_reducible apply kp_seqT); with_reducible assumption) | ((with_reducible apply Dw.same); with_reducible assumption))); done)); exact rfl)   | ((with_reducible apply R.ixL); (focus ((repeat' (first | with_reducible assumption | ((with_reducible apply SqL.of); with_reducible assumption) | ((with_reducible apply Same.seq); with_reducible assumption) | ((with_reducible apply Kp.seqL); with_reducible assumption) | ((with_reducible apply fresh_ne); with_reducible assumption) | ((with_reducible apply Dw.same); with_reducible assumption))); done)); exact rfl)   | with_reducible assumption   | with_reducible apply Bd.mulW   | with_reducible apply Bd.mul   | with_reducible apply Bd.add   | with_reducible apply Bd.sub   | ((with_reducible apply Bd.l8); exact eq_true (by decide))   | ((with_reducible apply Bd.lit); exact eq_true (by decide))   | with_reducible apply Bd.neg   | with_reducible apply Bd.div   | ((with_reducible apply Bd.om); omega)   | ((with_reducible apply R.isLe); first | decide | omega)   | with_reducible apply R.un   | with_reducible apply R.u1   | with_reducible apply R.tup   | with_reducible apply R.lst   | with_reducible apply R.call   | with_reducible apply R.callB   | with_reducible apply R.gtup   | with_reducible apply R.gnil   | with_reducible apply R.seq   | with_reducible apply R.asg   | with_reducible apply R.ret   | with_reducible apply R.next   | with_reducible apply R.drop   | with_reducible apply R.par   | with_reducible apply R.par2   | with_reducible apply R.ifs   | with_reducible apply R.tif   | with_reducible apply R.test   | with_reducible apply R.tb'   | with_reducible apply R.isbl   | with_reducible apply R.cmp   | with_reducible apply R.t2i   | with_reducible apply R.intp   | with_reducible apply R.and   | with_reducible apply R.or   | with_reducible apply R.not   | with_reducible apply R.andV   | with_reducible apply R.orV   | with_reducible apply R.notV   | with_reducible apply R.chain   | with_reducible apply R.tupL   | with_reducible apply R.lstL   | with_reducible apply R.cat   | with_reducible apply R.isiT   | with_reducible apply R.isiTup   | with_reducible apply R.isiLst   | with_reducible apply R.nwT   | with_reducible apply R.nwL   | ((with_reducible apply R.mt); intro HN tn sn nn ht)   | ((with_reducible apply R.ml); intro HN tn sn nn ht)   | ((with_reducible apply R.ne4); focus ((repeat' (first | with_reducible assumption | with_reducible apply hU | ((with_reducible apply SqT.of); with_reducible assumption) | ((with_reducible apply same_seqT); with_reducible assumption) | ((with_reducible apply kp_seqT); with_reducible assumption) | ((with_reducible apply Dw.same); with_reducible assumption))); done))   | ((with_reducible apply R.ne3); focus ((repeat' (first | with_reducible assumption | with_reducible apply hU | ((with_reducible apply SqT.of); with_reducible assumption) | ((with_reducible apply same_seqT); with_reducible assumption) | ((with_reducible apply kp_seqT); with_reducible assumption) | ((with_reducible apply Dw.same); with_reducible assumption))); done))   | ((with_reducible apply R.ne2); focus ((repeat' (first | with_reducible assumption | with_reducible apply hU | ((with_reducible apply SqT.of); with_reducible assumption) | ((with_reducible apply same_seqT); with_reducible assumption) | ((with_reducible apply kp_seqT); with_reducible assumption) | ((with_reducible apply Dw.same); with_reducible assumption))); done))   | ((with_reducible apply R.eq4); focus ((repeat' (first | with_reducible assumption | with_reducible apply hU | ((with_reducible apply SqT.of); with_reducible assumption) | ((with_reducible apply same_seqT); with_reducible assumption) | ((with_reducible apply kp_seqT); with_reducible assumption) | ((with_reducible apply Dw.same); with_reducible assumption))); done))   | ((with_reducible apply R.eq3); focus ((repeat' (first | with_reducible assumption | with_reducible apply hU | ((with_reducible apply SqT.of); with_reducible assumption) | ((with_reducible apply same_seqT); with_reducible assumption) | ((with_reducible apply kp_seqT); with_reducible assumption) | ((with_reducible apply Dw.same); with_reducible assumption))); done))   | ((with_reducible apply R.eq2); focus ((repeat' (first | with_reducible assumption | with_reducible apply hU | ((with_reducible apply SqT.of); with_reducible assumption) | ((with_reducible apply same_seqT); with_reducible assumption) | ((with_reducible apply kp_seqT); with_reducible assumption) | ((with_reducible apply Dw.same); with_reducible assumption))); done))   | with_reducible apply uLawNext   | with_reducible apply uLawWide   | with_reducible apply uLawChange   | with_reducible apply uMultiply   | with_reducible apply uDeterminant   | with_reducible apply uApply   | with_reducible apply uNegative   | with_reducible apply uLawAt   | with_reducible apply uLawMul   | with_reducible apply uInverse   | ((with_reducible apply R.nw); intro HN tn sn ht)   | with_reducible apply iteT   | with_reducible apply iteF   | ((with_reducible apply SqT.of); with_reducible assumption)   | ((with_reducible apply SqL.of); with_reducible assumption)   | ((with_reducible apply same_seqT); with_reducible assumption)   | ((with_reducible apply sameB); with_reducible assumption)   | ((with_reducible apply same_at); with_reducible assumption)   | ((with_reducible apply kp_seqT); with_reducible assumption)   | ((with_reducible apply Same.seq); with_reducible assumption)   | ((with_reducible apply Kp.seqL); with_reducible assumption)   | ((with_reducible apply fresh_ne); with_reducible assumption)   | ((with_reducible apply Dw.same); with_reducible assumption)   | ((with_reducible apply R.isEq); exact eq_true (by first | decide | omega))   | ((with_reducible apply R.isLt); first | decide | omega)   | ((with_reducible apply R.isLtI); first | decide | omega)   | ((with_reducible apply R.isLeI); first | decide | omega)   | ((with_reducible apply R.cdiv); exact rfl)   | ((with_reducible apply R.cpow); exact rfl)   | with_reducible apply hU   | ((with_reducible apply wayNF); first | exact rfl | exact ⟨rfl, rfl⟩ | exact ⟨rfl, rfl, rfl⟩ | exact ⟨rfl, rfl, rfl, rfl⟩)   | with_reducible apply R.forE   | with_reducible apply R.rng1   | with_reducible apply R.rng2   | with_reducible apply R.rg1   | with_reducible apply R.rg2   | with_reducible apply R.lcE   | with_reducible apply R.itup   | with_reducible apply R.ilst   )))) (by (apply bdm; (repeat' (first   | with_reducible apply R.var   | ((with_reducible apply R.isEq); exact rfl)   | with_reducible apply R.op   | with_reducible apply R.i2   | with_reducible apply R.i0   | with_reducible apply R.con   | with_reducible apply R.cons   | with_reducible apply R.nil   | with_reducible apply R.gcons   | with_reducible apply R.gname   | ((with_reducible apply R.ixT); (focus ((repeat' (first | with_reducible assumption | with_reducible apply hU | ((with_reducible apply SqT.of); with_reducible assumption) | ((with_reducible apply same_seqT); with_reducible assumption) | ((with_reducible apply kp_seqT); with_reducible assumption) | ((with_reducible apply Dw.same); with_reducible assumption))); done)); exact rfl)   | ((with_reducible apply R.ixL); (focus ((repeat' (first | with_reducible assumption | ((with_reducible apply SqL.of); with_reducible assumption) | ((with_reducible apply Same.seq); with_reducible assumption) | ((with_reducible apply Kp.seqL); with_reducible assumption) | ((with_reducible apply fresh_ne); with_reducible assumption) | ((with_reducible apply Dw.same); with_reducible assumption))); done)); exact rfl)   | with_reducible assumption   | with_reducible apply Bd.mulW   | with_reducible apply Bd.mul   | with_reducible apply Bd.add   | with_reducible apply Bd.sub   | ((with_reducible apply Bd.l8); exact eq_true (by decide))   | ((with_reducible apply Bd.lit); exact eq_true (by decide))   | with_reducible apply Bd.neg   | with_reducible apply Bd.div   | ((with_reducible apply Bd.om); omega)   | ((with_reducible apply R.isLe); first | decide | omega)   | with_reducible apply R.un   | with_reducible apply R.u1   | with_reducible apply R.tup   | with_reducible apply R.lst   | with_reducible apply R.call   | with_reducible apply R.callB   | with_reducible apply R.gtup   | with_reducible apply R.gnil   | with_reducible apply R.seq   | with_reducible apply R.asg   | with_reducible apply R.ret   | with_reducible apply R.next   | with_reducible apply R.drop   | with_reducible apply R.par   | with_reducible apply R.par2   | with_reducible apply R.ifs   | with_reducible apply R.tif   | with_reducible apply R.test   | with_reducible apply R.tb'   | with_reducible apply R.isbl   | with_reducible apply R.cmp   | with_reducible apply R.t2i   | with_reducible apply R.intp   | with_reducible apply R.and   | with_reducible apply R.or   | with_reducible apply R.not   | with_reducible apply R.andV   | with_reducible apply R.orV   | with_reducible apply R.notV   | with_reducible apply R.chain   | with_reducible apply R.tupL   | with_reducible apply R.lstL   | with_reducible apply R.cat   | with_reducible apply R.isiT   | with_reducible apply R.isiTup   | with_reducible apply R.isiLst   | with_reducible apply R.nwT   | with_reducible apply R.nwL   | ((with_reducible apply R.mt); intro HN tn sn nn ht)   | ((with_reducible apply R.ml); intro HN tn sn nn ht)   | ((with_reducible apply R.ne4); focus ((repeat' (first | with_reducible assumption | with_reducible apply hU | ((with_reducible apply SqT.of); with_reducible assumption) | ((with_reducible apply same_seqT); with_reducible assumption) | ((with_reducible apply kp_seqT); with_reducible assumption) | ((with_reducible apply Dw.same); with_reducible assumption))); done))   | ((with_reducible apply R.ne3); focus ((repeat' (first | with_reducible assumption | with_reducible apply hU | ((with_reducible apply SqT.of); with_reducible assumption) | ((with_reducible apply same_seqT); with_reducible assumption) | ((with_reducible apply kp_seqT); with_reducible assumption) | ((with_reducible apply Dw.same); with_reducible assumption))); done))   | ((with_reducible apply R.ne2); focus ((repeat' (first | with_reducible assumption | with_reducible apply hU | ((with_reducible apply SqT.of); with_reducible assumption) | ((with_reducible apply same_seqT); with_reducible assumption) | ((with_reducible apply kp_seqT); with_reducible assumption) | ((with_reducible apply Dw.same); with_reducible assumption))); done))   | ((with_reducible apply R.eq4); focus ((repeat' (first | with_reducible assumption | with_reducible apply hU | ((with_reducible apply SqT.of); with_reducible assumption) | ((with_reducible apply same_seqT); with_reducible assumption) | ((with_reducible apply kp_seqT); with_reducible assumption) | ((with_reducible apply Dw.same); with_reducible assumption))); done))   | ((with_reducible apply R.eq3); focus ((repeat' (first | with_reducible assumption | with_reducible apply hU | ((with_reducible apply SqT.of); with_reducible assumption) | ((with_reducible apply same_seqT); with_reducible assumption) | ((with_reducible apply kp_seqT); with_reducible assumption) | ((with_reducible apply Dw.same); with_reducible assumption))); done))   | ((with_reducible apply R.eq2); focus ((repeat' (first | with_reducible assumption | with_reducible apply hU | ((with_reducible apply SqT.of); with_reducible assumption) | ((with_reducible apply same_seqT); with_reducible assumption) | ((with_reducible apply kp_seqT); with_reducible assumption) | ((with_reducible apply Dw.same); with_reducible assumption))); done))   | with_reducible apply uLawNext   | with_reducible apply uLawWide   | with_reducible apply uLawChange   | with_reducible apply uMultiply   | with_reducible apply uDeterminant   | with_reducible apply uApply   | with_reducible apply uNegative   | with_reducible apply uLawAt   | with_reducible apply uLawMul   | with_reducible apply uInverse   | ((with_reducible apply R.nw); intro HN tn sn ht)   | with_reducible apply iteT   | with_reducible apply iteF   | ((with_reducible apply SqT.of); with_reducible assumption)   | ((with_reducible apply SqL.of); with_reducible assumption)   | ((with_reducible apply same_seqT); with_reducible assumption)   | ((with_reducible apply sameB); with_reducible assumption)   | ((with_reducible apply same_at); with_reducible assumption)   | ((with_reducible apply kp_seqT); with_reducible assumption)   | ((with_reducible apply Same.seq); with_reducible assumption)   | ((with_reducible apply Kp.seqL); with_reducible assumption)   | ((with_reducible apply fresh_ne); with_reducible assumption)   | ((with_reducible apply Dw.same); with_reducible assumption)   | ((with_reducible apply R.isEq); exact eq_true (by first | decide | omega))   | ((with_reducible apply R.isLt); first | decide | omega)   | ((with_reducible apply R.isLtI); first | decide | omega)   | ((with_reducible apply R.isLeI); first | decide | omega)   | ((with_reducible apply R.cdiv); exact rfl)   | ((with_reducible apply R.cpow); exact rfl)   | with_reducible apply hU   | ((with_reducible apply wayNF); first | exact rfl | exact ⟨rfl, rfl⟩ | exact ⟨rfl, rfl, rfl⟩ | exact ⟨rfl, rfl, rfl, rfl⟩)   | with_reducible apply R.forE   | with_reducible apply R.rng1   | with_reducible apply R.rng2   | with_reducible apply R.rg1   | with_reducible apply R.rg2   | with_reducible apply R.lcE   | with_reducible apply R.itup   | with_reducible apply R.ilst   )))) (by (apply bdm; (repeat' (first   | with_reducible apply R.var   | ((with_reducible apply R.isEq); exact rfl)   | with_reducible apply R.op   | with_reducible apply R.i2   | with_reducible apply R.i0   | with_reducible apply R.con   | with_reducible apply R.cons   | with_reducible apply R.nil   | with_reducible apply R.gcons   | with_reducible apply R.gname   | ((with_reducible apply R.ixT); (focus ((repeat' (first | with_reducible assumption | with_reducible apply hU | ((with_reducible apply SqT.of); with_reducible assumption) | ((with_reducible apply same_seqT); with_reducible assumption) | ((with_reducible apply kp_seqT); with_reducible assumption) | ((with_reducible apply Dw.same); with_reducible assumption))); done)); exact rfl)   | ((with_reducible apply R.ixL); (focus ((repeat' (first | with_reducible assumption | ((with_reducible apply SqL.of); with_reducible assumption) | ((with_reducible apply Same.seq); with_reducible assumption) | ((with_reducible apply Kp.seqL); with_reducible assumption) | ((with_reducible apply fresh_ne); with_reducible assumption) | ((with_reducible apply Dw.same); with_reducible assumption))); done)); exact rfl)   | with_reducible assumption   | with_reducible apply Bd.mulW   | with_reducible apply Bd.mul   | with_reducible apply Bd.add   | with_reducible apply Bd.sub   | ((with_reducible apply Bd.l8); exact eq_true (by decide))   | ((with_reducible apply Bd.lit); exact eq_true (by decide))   | with_reducible apply Bd.neg   | with_reducible apply Bd.div   | ((with_reducible apply Bd.om); omega)   | ((with_reducible apply R.isLe); first | decide | omega)   | with_reducible apply R.un   | with_reducible apply R.u1   | with_reducible apply R.tup   | with_reducible apply R.lst   | with_reducible apply R.call   | with_reducible apply R.callB   | with_reducible apply R.gtup   | with_reducible apply R.gnil   | with_reducible apply R.seq   | with_reducible apply R.asg   | with_reducible apply R.ret   | with_reducible apply R.next   | with_reducible apply R.drop   | with_reducible apply R.par   | with_reducible apply R.par2   | with_reducible apply R.ifs   | with_reducible apply R.tif   | with_reducible apply R.test   | with_reducible apply R.tb'   | with_reducible apply R.isbl   | with_reducible apply R.cmp   | with_reducible apply R.t2i   | with_reducible apply R.intp   | with_reducible apply R.and   | with_reducible apply R.or   | with_reducible apply R.not   | with_reducible apply R.andV   | with_reducible apply R.orV   | with_reducible apply R.notV   | with_reducible apply R.chain   | with_reducible apply R.tupL   | with_reducible apply R.lstL   | with_reducible apply R.cat   | with_reducible apply R.isiT   | with_reducible apply R.isiTup   | with_reducible apply R.isiLst   | with_reducible apply R.nwT   | with_reducible apply R.nwL   | ((with_reducible apply R.mt); intro HN tn sn nn ht)   | ((with_reducible apply R.ml); intro HN tn sn nn ht)   | ((with_reducible apply R.ne4); focus ((repeat' (first | with_reducible assumption | with_reducible apply hU | ((with_reducible apply SqT.of); with_reducible assumption) | ((with_reducible apply same_seqT); with_reducible assumption) | ((with_reducible apply kp_seqT); with_reducible assumption) | ((with_reducible apply Dw.same); with_reducible assumption))); done))   | ((with_reducible apply R.ne3); focus ((repeat' (first | with_reducible assumption | with_reducible apply hU | ((with_reducible apply SqT.of); with_reducible assumption) | ((with_reducible apply same_seqT); with_reducible assumption) | ((with_reducible apply kp_seqT); with_reducible assumption) | ((with_reducible apply Dw.same); with_reducible assumption))); done))   | ((with_reducible apply R.ne2); focus ((repeat' (first | with_reducible assumption | with_reducible apply hU | ((with_reducible apply SqT.of); with_reducible assumption) | ((with_reducible apply same_seqT); with_reducible assumption) | ((with_reducible apply kp_seqT); with_reducible assumption) | ((with_reducible apply Dw.same); with_reducible assumption))); done))   | ((with_reducible apply R.eq4); focus ((repeat' (first | with_reducible assumption | with_reducible apply hU | ((with_reducible apply SqT.of); with_reducible assumption) | ((with_reducible apply same_seqT); with_reducible assumption) | ((with_reducible apply kp_seqT); with_reducible assumption) | ((with_reducible apply Dw.same); with_reducible assumption))); done))   | ((with_reducible apply R.eq3); focus ((repeat' (first | with_reducible assumption | with_reducible apply hU | ((with_reducible apply SqT.of); with_reducible assumption) | ((with_reducible apply same_seqT); with_reducible assumption) | ((with_reducible apply kp_seqT); with_reducible assumption) | ((with_reducible apply Dw.same); with_reducible assumption))); done))   | ((with_reducible apply R.eq2); focus ((repeat' (first | with_reducible assumption | with_reducible apply hU | ((with_reducible apply SqT.of); with_reducible assumption) | ((with_reducible apply same_seqT); with_reducible assumption) | ((with_reducible apply kp_seqT); with_reducible assumption) | ((with_reducible apply Dw.same); with_reducible assumption))); done))   | with_reducible apply uLawNext   | with_reducible apply uLawWide   | with_reducible apply uLawChange   | with_reducible apply uMultiply   | with_reducible apply uDeterminant   | with_reducible apply uApply   | with_reducible apply uNegative   | with_reducible apply uLawAt   | with_reducible apply uLawMul   | with_reducible apply uInverse   | ((with_reducible apply R.nw); intro HN tn sn ht)   | with_reducible apply iteT   | with_reducible apply iteF   | ((with_reducible apply SqT.of); with_reducible assumption)   | ((with_reducible apply SqL.of); with_reducible assumption)   | ((with_reducible apply same_seqT); with_reducible assumption)   | ((with_reducible apply sameB); with_reducible assumption)   | ((with_reducible apply same_at); with_reducible assumption)   | ((with_reducible apply kp_seqT); with_reducible assumption)   | ((with_reducible apply Same.seq); with_reducible assumption)   | ((with_reducible apply Kp.seqL); with_reducible assumption)   | ((with_reducible apply fresh_ne); with_reducible assumption)   | ((with_reducible apply Dw.same); with_reducible assumption)   | ((with_reducible apply R.isEq); exact eq_true (by first | decide | omega))   | ((with_reducible apply R.isLt); first | decide | omega)   | ((with_reducible apply R.isLtI); first | decide | omega)   | ((with_reducible apply R.isLeI); first | decide | omega)   | ((with_reducible apply R.cdiv); exact rfl)   | ((with_reducible apply R.cpow); exact rfl)   | with_reducible apply hU   | ((with_reducible apply wayNF); first | exact rfl | exact ⟨rfl, rfl⟩ | exact ⟨rfl, rfl, rfl⟩ | exact ⟨rfl, rfl, rfl, rfl⟩)   | with_reducible apply R.forE   | with_reducible apply R.rng1   | with_reducible apply R.rng2   | with_reducible apply R.rg1   | with_reducible apply R.rg2   | with_reducible apply R.lcE   | with_reducible apply R.itup   | with_reducible apply R.ilst   )))) (by (apply bdm; (repeat' (first   | with_reducible apply R.var   | ((with_reducible apply R.isEq); exact rfl)   | with_reducible apply R.op   | with_reducible apply R.i2   | with_reducible apply R.i0   | with_reducible apply R.con   | with_reducible apply R.cons   | with_reducible apply R.nil   | with_reducible apply R.gcons   | with_reducible apply R.gname   | ((with_reducible apply R.ixT); (focus ((repeat' (first | with_reducible assumption | with_reducible apply hU | ((with_reducible apply SqT.of); with_reducible assumption) | ((with_reducible apply same_seqT); with_reducible assumption) | ((with_reducible apply kp_seqT); with_reducible assumption) | ((with_reducible apply Dw.same); with_reducible assumption))); done)); exact rfl)   | ((with_reducible apply R.ixL); (focus ((repeat' (first | with_reducible assumption | ((with_reducible apply SqL.of); with_reducible assumption) | ((with_reducible apply Same.seq); with_reducible assumption) | ((with_reducible apply Kp.seqL); with_reducible assumption) | ((with_reducible apply fresh_ne); with_reducible assumption) | ((with_reducible apply Dw.same); with_reducible assumption))); done)); exact rfl)   | with_reducible assumption   | with_reducible apply Bd.mulW   | with_reducible apply Bd.mul   | with_reducible apply Bd.add   | with_reducible apply Bd.sub   | ((with_reducible apply Bd.l8); exact eq_true (by decide))   | ((with_reducible apply Bd.lit); exact eq_true (by decide))   | with_reducible apply Bd.neg   | with_reducible apply Bd.div   | ((with_reducible apply Bd.om); omega)   | ((with_reducible apply R.isLe); first | decide | omega)   | with_reducible apply R.un   | with_reducible apply R.u1   | with_reducible apply R.tup   | with_reducible apply R.lst   | with_reducible apply R.call   | with_reducible apply R.callB   | with_reducible apply R.gtup   | with_reducible apply R.gnil   | with_reducible apply R.seq   | with_reducible apply R.asg   | with_reducible apply R.ret   | with_reducible apply R.next   | with_reducible apply R.drop   | with_reducible apply R.par   | with_reducible apply R.par2   | with_reducible apply R.ifs   | with_reducible apply R.tif   | with_reducible apply R.test   | with_reducible apply R.tb'   | with_reducible apply R.isbl   | with_reducible apply R.cmp   | with_reducible apply R.t2i   | with_reducible apply R.intp   | with_reducible apply R.and   | with_reducible apply R.or   | with_reducible apply R.not   | with_reducible apply R.andV   | with_reducible apply R.orV   | with_reducible apply R.notV   | with_reducible apply R.chain   | with_reducible apply R.tupL   | with_reducible apply R.lstL   | with_reducible apply R.cat   | with_reducible apply R.isiT   | with_reducible apply R.isiTup   | with_reducible apply R.isiLst   | with_reducible apply R.nwT   | with_reducible apply R.nwL   | ((with_reducible apply R.mt); intro HN tn sn nn ht)   | ((with_reducible apply R.ml); intro HN tn sn nn ht)   | ((with_reducible apply R.ne4); focus ((repeat' (first | with_reducible assumption | with_reducible apply hU | ((with_reducible apply SqT.of); with_reducible assumption) | ((with_reducible apply same_seqT); with_reducible assumption) | ((with_reducible apply kp_seqT); with_reducible assumption) | ((with_reducible apply Dw.same); with_reducible assumption))); done))   | ((with_reducible apply R.ne3); focus ((repeat' (first | with_reducible assumption | with_reducible apply hU | ((with_reducible apply SqT.of); with_reducible assumption) | ((with_reducible apply same_seqT); with_reducible assumption) | ((with_reducible apply kp_seqT); with_reducible assumption) | ((with_reducible apply Dw.same); with_reducible assumption))); done))   | ((with_reducible apply R.ne2); focus ((repeat' (first | with_reducible assumption | with_reducible apply hU | ((with_reducible apply SqT.of); with_reducible assumption) | ((with_reducible apply same_seqT); with_reducible assumption) | ((with_reducible apply kp_seqT); with_reducible assumption) | ((with_reducible apply Dw.same); with_reducible assumption))); done))   | ((with_reducible apply R.eq4); focus ((repeat' (first | with_reducible assumption | with_reducible apply hU | ((with_reducible apply SqT.of); with_reducible assumption) | ((with_reducible apply same_seqT); with_reducible assumption) | ((with_reducible apply kp_seqT); with_reducible assumption) | ((with_reducible apply Dw.same); with_reducible assumption))); done))   | ((with_reducible apply R.eq3); focus ((repeat' (first | with_reducible assumption | with_reducible apply hU | ((with_reducible apply SqT.of); with_reducible assumption) | ((with_reducible apply same_seqT); with_reducible assumption) | ((with_reducible apply kp_seqT); with_reducible assumption) | ((with_reducible apply Dw.same); with_reducible assumption))); done))   | ((with_reducible apply R.eq2); focus ((repeat' (first | with_reducible assumption | with_reducible apply hU | ((with_reducible apply SqT.of); with_reducible assumption) | ((with_reducible apply same_seqT); with_reducible assumption) | ((with_reducible apply kp_seqT); with_reducible assumption) | ((with_reducible apply Dw.same); with_reducible assumption))); done))   | with_reducible apply uLawNext   | with_reducible apply uLawWide   | with_reducible apply uLawChange   | with_reducible apply uMultiply   | with_reducible apply uDeterminant   | with_reducible apply uApply   | with_reducible apply uNegative   | with_reducible apply uLawAt   | with_reducible apply uLawMul   | with_reducible apply uInverse   | ((with_reducible apply R.nw); intro HN tn sn ht)   | with_reducible apply iteT   | with_reducible apply iteF   | ((with_reducible apply SqT.of); with_reducible assumption)   | ((with_reducible apply SqL.of); with_reducible assumption)   | ((with_reducible apply same_seqT); with_reducible assumption)   | ((with_reducible apply sameB); with_reducible assumption)   | ((with_reducible apply same_at); with_reducible assumption)   | ((with_reducible apply kp_seqT); with_reducible assumption)   | ((with_reducible apply Same.seq); with_reducible assumption)   | ((with_reducible apply Kp.seqL); with_reducible assumption)   | ((with_reducible apply fresh_ne); with_reducible assumption)   | ((with_reducible apply Dw.same); with_reducible assumption)   | ((with_reducible apply R.isEq); exact eq_true (by first | decide | omega))   | ((with_reducible apply R.isLt); first | decide | omega)   | ((with_reducible apply R.isLtI); first | decide | omega)   | ((with_reducible apply R.isLeI); first | decide | omega)   | ((with_reducible apply R.cdiv); exact rfl)   | ((with_reducible apply R.cpow); exact rfl)   | with_reducible apply hU   | ((with_reducible apply wayNF); first | exact rfl | exact ⟨rfl, rfl⟩ | exact ⟨rfl, rfl, rfl⟩ | exact ⟨rfl, rfl, rfl, rfl⟩)   | with_reducible apply R.forE   | with_reducible apply R.rng1   | with_reducible apply R.rng2   | with_reducible apply R.rg1   | with_reducible apply R.rg2   | with_reducible apply R.lcE   | with_reducible apply R.itup   | with_reducible apply R.ilst   )))) (x1 := (mpw (c1, c2, c3, c4) nv.toNat).1) (x2 := (mpw (c1, c2, c3, c4) nv.toNat).2.1) (x3 := (mpw (c1, c2, c3, c4) nv.toNat).2.2.1) (x4 := (mpw (c1, c2, c3, c4) nv.toNat).2.2.2) ?_ ?_
      · unfold rz
        rw [if_pos hn0]
      repeat' (first
        | with_reducible apply R.var
        | ((with_reducible apply R.isEq); exact rfl)
        | with_reducible apply R.op
        | with_reducible apply R.i2
        | with_reducible apply R.i0
        | with_reducible apply R.con
        | with_reducible apply R.cons
        | with_reducible apply R.nil
        | with_reducible apply R.gcons
        | with_reducible apply R.gname
        | ((with_reducible apply R.ixT); (focus ((repeat' (first | with_reducible assumption | with_reducible apply hU | ((with_reducible apply SqT.of); with_reducible assumption) | ((with_reducible apply same_seqT); with_reducible assumption) | ((with_reducible apply kp_seqT); with_reducible assumption) | ((with_reducible apply Dw.same); with_reducible assumption))); done)); exact rfl)
        | ((with_reducible apply R.ixL); (focus ((repeat' (first | with_reducible assumption | ((with_reducible apply SqL.of); with_reducible assumption) | ((with_reducible apply Same.seq); with_reducible assumption) | ((with_reducible apply Kp.seqL); with_reducible assumption) | ((with_reducible apply fresh_ne); with_reducible assumption) | ((with_reducible apply Dw.same); with_reducible assumption))); done)); exact rfl)
        | with_reducible assumption
        | with_reducible apply Bd.mulW
        | with_reducible apply Bd.mul
        | with_reducible apply Bd.add
        | with_reducible apply Bd.sub
        | ((with_reducible apply Bd.l8); exact eq_true (by decide))
        | ((with_reducible apply Bd.lit); exact eq_true (by decide))
        | with_reducible apply Bd.neg
        | with_reducible apply Bd.div
        | ((with_reducible apply Bd.om); omega)
        | ((with_reducible apply R.isLe); first | decide | omega)
        | with_reducible apply R.un
        | with_reducible apply R.u1
        | with_reducible apply R.tup
        | with_reducible apply R.lst
        | with_reducible apply R.call
        | with_reducible apply R.callB
        | with_reducible apply R.gtup
        | with_reducible apply R.gnil
        | with_reducible apply R.seq
        | with_reducible apply R.asg
        | with_reducible apply R.ret
        | with_reducible apply R.next
        | with_reducible apply R.drop
        | with_reducible apply R.par
        | with_reducible apply R.par2
        | with_reducible apply R.ifs
        | with_reducible apply R.tif
        | with_reducible apply R.test
        | with_reducible apply R.tb'
        | with_reducible apply R.isbl
        | with_reducible apply R.cmp
        | with_reducible apply R.t2i
        | with_reducible apply R.intp
        | with_reducible apply R.and
        | with_reducible apply R.or
        | with_reducible apply R.not
        | with_reducible apply R.andV
        | with_reducible apply R.orV
        | with_reducible apply R.notV
        | with_reducible apply R.chain
        | with_reducible apply R.tupL
        | with_reducible apply R.lstL
        | with_reducible apply R.cat
        | with_reducible apply R.isiT
        | with_reducible apply R.isiTup
        | with_reducible apply R.isiLst
        | with_reducible apply R.nwT
        | with_reducible apply R.nwL
        | ((with_reducible apply R.mt); intro HN tn sn nn ht)
        | ((with_reducible apply R.ml); intro HN tn sn nn ht)
        | ((with_reducible apply R.ne4); focus ((repeat' (first | with_reducible assumption | with_reducible apply hU | ((with_reducible apply SqT.of); with_reducible assumption) | ((with_reducible apply same_seqT); with_reducible assumption) | ((with_reducible apply kp_seqT); with_reducible assumption) | ((with_reducible apply Dw.same); with_reducible assumption))); done))
        | ((with_reducible apply R.ne3); focus ((repeat' (first | with_reducible assumption | with_reducible apply hU | ((with_reducible apply SqT.of); with_reducible assumption) | ((with_reducible apply same_seqT); with_reducible assumption) | ((with_reducible apply kp_seqT); with_reducible assumption) | ((with_reducible apply Dw.same); with_reducible assumption))); done))
        | ((with_reducible apply R.ne2); focus ((repeat' (first | with_reducible assumption | with_reducible apply hU | ((with_reducible apply SqT.of); with_reducible assumption) | ((with_reducible apply same_seqT); with_reducible assumption) | ((with_reducible apply kp_seqT); with_reducible assumption) | ((with_reducible apply Dw.same); with_reducible assumption))); done))
        | ((with_reducible apply R.eq4); focus ((repeat' (first | with_reducible assumption | with_reducible apply hU | ((with_reducible apply SqT.of); with_reducible assumption) | ((with_reducible apply same_seqT); with_reducible assumption) | ((with_reducible apply kp_seqT); with_reducible assumption) | ((with_reducible apply Dw.same); with_reducible assumption))); done))
        | ((with_reducible apply R.eq3); focus ((repeat' (first | with_reducible assumption | with_reducible apply hU | ((with_reducible apply SqT.of); with_reducible assumption) | ((with_reducible apply same_seqT); with_reducible assumption) | ((with_reducible apply kp_seqT); with_reducible assumption) | ((with_reducible apply Dw.same); with_reducible assumption))); done))
        | ((with_reducible apply R.eq2); focus ((repeat' (first | with_reducible assumption | with_reducible apply hU | ((with_reducible apply SqT.of); with_reducible assumption) | ((with_reducible apply same_seqT); with_reducible assumption) | ((with_reducible apply kp_seqT); with_reducible assumption) | ((with_reducible apply Dw.same); with_reducible assumption))); done))
        | with_reducible apply uLawNext
        | with_reducible apply uLawWide
        | with_reducible apply uLawChange
        | with_reducible apply uMultiply
        | with_reducible apply uDeterminant
        | with_reducible apply uApply
        | with_reducible apply uNegative
        | with_reducible apply uLawAt
        | with_reducible apply uLawMul
        | with_reducible apply uInverse
        | ((with_reducible apply R.nw); intro HN tn sn ht)
        | with_reducible apply iteT
        | with_reducible apply iteF
        | ((with_reducible apply SqT.of); with_reducible assumption)
        | ((with_reducible apply SqL.of); with_reducible assumption)
        | ((with_reducible apply same_seqT); with_reducible assumption)
        | ((with_reducible apply sameB); with_reducible assumption)
        | ((with_reducible apply same_at); with_reducible assumption)
        | ((with_reducible apply kp_seqT); with_reducible assumption)
        | ((with_reducible apply Same.seq); with_reducible assumption)
        | ((with_reducible apply Kp.seqL); with_reducible assumption)
        | ((with_reducible apply fresh_ne); with_reducible assumption)
        | ((with_reducible apply Dw.same); with_reducible assumption)
        | ((with_reducible apply R.isEq); exact eq_true (by first | decide | omega))
        | ((with_reducible apply R.isLt); first | decide | omega)
        | ((with_reducible apply R.isLtI); first | decide | omega)
        | ((with_reducible apply R.isLeI); first | decide | omega)
        | ((with_reducible apply R.cdiv); exact rfl)
        | ((with_reducible apply R.cpow); exact rfl)
        | with_reducible apply hU
        | ((with_reducible apply wayNF); first | exact rfl | exact ⟨rfl, rfl⟩ | exact ⟨rfl, rfl, rfl⟩ | exact ⟨rfl, rfl, rfl, rfl⟩)
        | with_reducible apply R.forE
        | with_reducible apply R.rng1
        | with_reducible apply R.rng2
        | with_reducible apply R.rg1
        | with_reducible apply R.rg2
        | with_reducible apply R.lcE
        | with_reducible apply R.itup
        | with_reducible apply R.ilst
        )
      refine wayT ⟨rfl, rfl, rfl, rfl⟩ ?_
      repeat' (first
        | with_reducible apply R.var
        | ((with_reducible apply R.isEq); exact rfl)
        | with_reducible apply R.op
        | with_reducible apply R.i2
        | with_reducible apply R.i0
        | with_reducible apply R.con
        | with_reducible apply R.cons
        | with_reducible apply R.nil
        | with_reducible apply R.gcons
        | with_reducible apply R.gname
        | ((with_reducible apply R.ixT); (focus ((repeat' (first | with_reducible assumption | with_reducible apply hU | ((with_reducible apply SqT.of); with_reducible assumption) | ((with_reducible apply same_seqT); with_reducible assumption) | ((with_reducible apply kp_seqT); with_reducible assumption) | ((with_reducible apply Dw.same); with_reducible assumption))); done)); exact rfl)
        | ((with_reducible apply R.ixL); (focus ((repeat' (first | with_reducible assumption | ((with_reducible apply SqL.of); with_reducible assumption) | ((with_reducible apply Same.seq); with_reducible assumption) | ((with_reducible apply Kp.seqL); with_reducible assumption) | ((with_reducible apply fresh_ne); with_reducible assumption) | ((with_reducible apply Dw.same); with_reducible assumption))); done)); exact rfl)
        | with_reducible assumption
        | with_reducible apply Bd.mulW
        | with_reducible apply Bd.mul
        | with_reducible apply Bd.add
        | with_reducible apply Bd.sub
        | ((with_reducible apply Bd.l8); exact eq_true (by decide))
        | ((with_reducible apply Bd.lit); exact eq_true (by decide))
        | with_reducible apply Bd.neg
        | with_reducible apply Bd.div
        | ((with_reducible apply Bd.om); omega)
        | ((with_reducible apply R.isLe); first | decide | omega)
        | with_reducible apply R.un
        | with_reducible apply R.u1
        | with_reducible apply R.tup
        | with_reducible apply R.lst
        | with_reducible apply R.call
        | with_reducible apply R.callB
        | with_reducible apply R.gtup
        | with_reducible apply R.gnil
        | with_reducible apply R.seq
        | with_reducible apply R.asg
        | with_reducible apply R.ret
        | with_reducible apply R.next
        | with_reducible apply R.drop
        | with_reducible apply R.par
        | with_reducible apply R.par2
        | with_reducible apply R.ifs
        | with_reducible apply R.tif
        | with_reducible apply R.test
        | with_reducible apply R.tb'
        | with_reducible apply R.isbl
        | with_reducible apply R.cmp
        | with_reducible apply R.t2i
        | with_reducible apply R.intp
        | with_reducible apply R.and
        | with_reducible apply R.or
        | with_reducible apply R.not
        | with_reducible apply R.andV
        | with_reducible apply R.orV
        | with_reducible apply R.notV
        | with_reducible apply R.chain
        | with_reducible apply R.tupL
        | with_reducible apply R.lstL
        | with_reducible apply R.cat
        | with_reducible apply R.isiT
        | with_reducible apply R.isiTup
        | with_reducible apply R.isiLst
        | with_reducible apply R.nwT
        | with_reducible apply R.nwL
        | ((with_reducible apply R.mt); intro HN tn sn nn ht)
        | ((with_reducible apply R.ml); intro HN tn sn nn ht)
        | ((with_reducible apply R.ne4); focus ((repeat' (first | with_reducible assumption | with_reducible apply hU | ((with_reducible apply SqT.of); with_reducible assumption) | ((with_reducible apply same_seqT); with_reducible assumption) | ((with_reducible apply kp_seqT); with_reducible assumption) | ((with_reducible apply Dw.same); with_reducible assumption))); done))
        | ((with_reducible apply R.ne3); focus ((repeat' (first | with_reducible assumption | with_reducible apply hU | ((with_reducible apply SqT.of); with_reducible assumption) | ((with_reducible apply same_seqT); with_reducible assumption) | ((with_reducible apply kp_seqT); with_reducible assumption) | ((with_reducible apply Dw.same); with_reducible assumption))); done))
        | ((with_reducible apply R.ne2); focus ((repeat' (first | with_reducible assumption | with_reducible apply hU | ((with_reducible apply SqT.of); with_reducible assumption) | ((with_reducible apply same_seqT); with_reducible assumption) | ((with_reducible apply kp_seqT); with_reducible assumption) | ((with_reducible apply Dw.same); with_reducible assumption))); done))
        | ((with_reducible apply R.eq4); focus ((repeat' (first | with_reducible assumption | with_reducible apply hU | ((with_reducible apply SqT.of); with_reducible assumption) | ((with_reducible apply same_seqT); with_reducible assumption) | ((with_reducible apply kp_seqT); with_reducible assumption) | ((with_reducible apply Dw.same); with_reducible assumption))); done))
        | ((with_reducible apply R.eq3); focus ((repeat' (first | with_reducible assumption | with_reducible apply hU | ((with_reducible apply SqT.of); with_reducible assumption) | ((with_reducible apply same_seqT); with_reducible assumption) | ((with_reducible apply kp_seqT); with_reducible assumption) | ((with_reducible apply Dw.same); with_reducible assumption))); done))
        | ((with_reducible apply R.eq2); focus ((repeat' (first | with_reducible assumption | with_reducible apply hU | ((with_reducible apply SqT.of); with_reducible assumption) | ((with_reducible apply same_seqT); with_reducible assumption) | ((with_reducible apply kp_seqT); with_reducible assumption) | ((with_reducible apply Dw.same); with_reducible assumption))); done))
        | with_reducible apply uLawNext
        | with_reducible apply uLawWide
        | with_reducible apply uLawChange
        | with_reducible apply uMultiply
        | with_reducible apply uDeterminant
        | with_reducible apply uApply
        | with_reducible apply uNegative
        | with_reducible apply uLawAt
        | with_reducible apply uLawMul
        | with_reducible apply uInverse
        | ((with_reducible apply R.nw); intro HN tn sn ht)
        | with_reducible apply iteT
        | with_reducible apply iteF
        | ((with_reducible apply SqT.of); with_reducible assumption)
        | ((with_reducible apply SqL.of); with_reducible assumption)
        | ((with_reducible apply same_seqT); with_reducible assumption)
        | ((with_reducible apply sameB); with_reducible assumption)
        | ((with_reducible apply same_at); with_reducible assumption)
        | ((with_reducible apply kp_seqT); with_reducible assumption)
        | ((with_reducible apply Same.seq); with_reducible assumption)
        | ((with_reducible apply Kp.seqL); with_reducible assumption)
        | ((with_reducible apply fresh_ne); with_reducible assumption)
        | ((with_reducible apply Dw.same); with_reducible assumption)
        | ((with_reducible apply R.isEq); exact eq_true (by first | decide | omega))
        | ((with_reducible apply R.isLt); first | decide | omega)
        | ((with_reducible apply R.isLtI); first | decide | omega)
        | ((with_reducible apply R.isLeI); first | decide | omega)
        | ((with_reducible apply R.cdiv); exact rfl)
        | ((with_reducible apply R.cpow); exact rfl)
        | with_reducible apply hU
        | ((with_reducible apply wayNF); first | exact rfl | exact ⟨rfl, rfl⟩ | exact ⟨rfl, rfl, rfl⟩ | exact ⟨rfl, rfl, rfl, rfl⟩)
        | with_reducible apply R.forE
        | with_reducible apply R.rng1
        | with_reducible apply R.rng2
        | with_reducible apply R.rg1
        | with_reducible apply R.rg2
        | with_reducible apply R.lcE
        | with_reducible apply R.itup
        | with_reducible apply R.ilst
        )
      have zi := rz_inv hdet hn0
      obtain ⟨z1, z2, z3, z4⟩ := rz_bd (many := -nv) hdet (by omega) bb1 bb2 bb3 bb4
      rw [Int.neg_neg] at z1 z2 z3 z4
      refine uRaised rfl (by (repeat' (first | with_reducible assumption | with_reducible apply hU | ((with_reducible apply SqT.of); with_reducible assumption) | ((with_reducible apply same_seqT); with_reducible assumption) | ((with_reducible apply kp_seqT); with_reducible assumption) | ((with_reducible apply Dw.same); with_reducible assumption)))) (by omega) (by omega) hdet (by (apply bdm; (repeat' (first   | with_reducible apply R.var   | ((with_reducible apply R.isEq); exact rfl)   | with_reducible apply R.op   | with_reducible apply R.i2   | with_reducible apply R.i0   | with_reducible apply R.con   | with_reducible apply R.cons   | with_reducible apply R.nil   | with_reducible apply R.gcons   | with_reducible apply R.gname   | ((with_reducible apply R.ixT); (focus ((repeat' (first | with_reducible assumption | with_reducible apply hU | ((with_reducible apply SqT.of); with_reducible assumption) | ((with_reducible apply same_seqT); with_reducible assumption) | ((with_reducible apply kp_seqT); with_reducible assumption) | ((with_reducible apply Dw.same); with_reducible assumption))); done)); exact rfl)   | ((with_reducible apply R.ixL); (focus ((repeat' (first | with_reducible assumption | ((with_reducible apply SqL.of); with_reducible assumption) | ((with_reducible apply Same.seq); with_reducible assumption) | ((with_reducible apply Kp.seqL); with_reducible assumption) | ((with_reducible apply fresh_ne); with_reducible assumption) | ((with_reducible apply Dw.same); with_reducible assumption))); done)); exact rfl)   | with_reducible assumption   | with_reducible apply Bd.mulW   | with_reducible apply Bd.mul   | with_reducible apply Bd.add   | with_reducible apply Bd.sub   | ((with_reducible apply Bd.l8); exact eq_true (by decide))   | ((with_reducible apply Bd.lit); exact eq_true (by decide))   | with_reducible apply Bd.neg   | with_reducible apply Bd.div   | ((with_reducible apply Bd.om); omega)   | ((with_reducible apply R.isLe); first | decide | omega)   | with_reducible apply R.un   | with_reducible apply R.u1   | with_reducible apply R.tup   | with_reducible apply R.lst   | with_reducible apply R.call   | with_reducible apply R.callB   | with_reducible apply R.gtup   | with_reducible apply R.gnil   | with_reducible apply R.seq   | with_reducible apply R.asg   | with_reducible apply R.ret   | with_reducible apply R.next   | with_reducible apply R.drop   | with_reducible apply R.par   | with_reducible apply R.par2   | with_reducible apply R.ifs   | with_reducible apply R.tif   | with_reducible apply R.test   | with_reducible apply R.tb'   | with_reducible apply R.isbl   | with_reducible apply R.cmp   | with_reducible apply R.t2i   | with_reducible apply R.intp   | with_reducible apply R.and   | with_reducible apply R.or   | with_reducible apply R.not   | with_reducible apply R.andV   | with_reducible apply R.orV   | with_reducible apply R.notV   | with_reducible apply R.chain   | with_reducible apply R.tupL   | with_reducible apply R.lstL   | with_reducible apply R.cat   | with_reducible apply R.isiT   | with_reducible apply R.isiTup   | with_reducible apply R.isiLst   | with_reducible apply R.nwT   | with_reducible apply R.nwL   | ((with_reducible apply R.mt); intro HN tn sn nn ht)   | ((with_reducible apply R.ml); intro HN tn sn nn ht)   | ((with_reducible apply R.ne4); focus ((repeat' (first | with_reducible assumption | with_reducible apply hU | ((with_reducible apply SqT.of); with_reducible assumption) | ((with_reducible apply same_seqT); with_reducible assumption) | ((with_reducible apply kp_seqT); with_reducible assumption) | ((with_reducible apply Dw.same); with_reducible assumption))); done))   | ((with_reducible apply R.ne3); focus ((repeat' (first | with_reducible assumption | with_reducible apply hU | ((with_reducible apply SqT.of); with_reducible assumption) | ((with_reducible apply same_seqT); with_reducible assumption) | ((with_reducible apply kp_seqT); with_reducible assumption) | ((with_reducible apply Dw.same); with_reducible assumption))); done))   | ((with_reducible apply R.ne2); focus ((repeat' (first | with_reducible assumption | with_reducible apply hU | ((with_reducible apply SqT.of); with_reducible assumption) | ((with_reducible apply same_seqT); with_reducible assumption) | ((with_reducible apply kp_seqT); with_reducible assumption) | ((with_reducible apply Dw.same); with_reducible assumption))); done))   | ((with_reducible apply R.eq4); focus ((repeat' (first | with_reducible assumption | with_reducible apply hU | ((with_reducible apply SqT.of); with_reducible assumption) | ((with_reducible apply same_seqT); with_reducible assumption) | ((with_reducible apply kp_seqT); with_reducible assumption) | ((with_reducible apply Dw.same); with_reducible assumption))); done))   | ((with_reducible apply R.eq3); focus ((repeat' (first | with_reducible assumption | with_reducible apply hU | ((with_reducible apply SqT.of); with_reducible assumption) | ((with_reducible apply same_seqT); with_reducible assumption) | ((with_reducible apply kp_seqT); with_reducible assumption) | ((with_reducible apply Dw.same); with_reducible assumption))); done))   | ((with_reducible apply R.eq2); focus ((repeat' (first | with_reducible assumption | with_reducible apply hU | ((with_reducible apply SqT.of); with_reducible assumption) | ((with_reducible apply same_seqT); with_reducible assumption) | ((with_reducible apply kp_seqT); with_reducible assumption) | ((with_reducible apply Dw.same); with_reducible assumption))); done))   | with_reducible apply uLawNext   | with_reducible apply uLawWide   | with_reducible apply uLawChange   | with_reducible apply uMultiply   | with_reducible apply uDeterminant   | with_reducible apply uApply   | with_reducible apply uNegative   | with_reducible apply uLawAt   | with_reducible apply uLawMul   | with_reducible apply uInverse   | ((with_reducible apply R.nw); intro HN tn sn ht)   | with_reducible apply iteT   | with_reducible apply iteF   | ((with_reducible apply SqT.of); with_reducible assumption)   | ((with_reducible apply SqL.of); with_reducible assumption)   | ((with_reducible apply same_seqT); with_reducible assumption)   | ((with_reducible apply sameB); with_reducible assumption)   | ((with_reducible apply same_at); with_reducible assumption)   | ((with_reducible apply kp_seqT); with_reducible assumption)   | ((with_reducible apply Same.seq); with_reducible assumption)   | ((with_reducible apply Kp.seqL); with_reducible assumption)   | ((with_reducible apply fresh_ne); with_reducible assumption)   | ((with_reducible apply Dw.same); with_reducible assumption)   | ((with_reducible apply R.isEq); exact eq_true (by first | decide | omega))   | ((with_reducible apply R.isLt); first | decide | omega)   | ((with_reducible apply R.isLtI); first | decide | omega)   | ((with_reducible apply R.isLeI); first | decide | omega)   | ((with_reducible apply R.cdiv); exact rfl)   | ((with_reducible apply R.cpow); exact rfl)   | with_reducible apply hU   | ((with_reducible apply wayNF); first | exact rfl | exact ⟨rfl, rfl⟩ | exact ⟨rfl, rfl, rfl⟩ | exact ⟨rfl, rfl, rfl, rfl⟩)   | with_reducible apply R.forE   | with_reducible apply R.rng1   | with_reducible apply R.rng2   | with_reducible apply R.rg1   | with_reducible apply R.rg2   | with_reducible apply R.lcE   | with_reducible apply R.itup   | with_reducible apply R.ilst   )))) (by (apply bdm; (repeat' (first   | with_reducible apply R.var   | ((with_reducible apply R.isEq); exact rfl)   | with_reducible apply R.op   | with_reducible apply R.i2   | with_reducible apply R.i0   | with_reducible apply R.con   | with_reducible apply R.cons   | with_reducible apply R.nil   | with_reducible apply R.gcons   | with_reducible apply R.gname   | ((with_reducible apply R.ixT); (focus ((repeat' (first | with_reducible assumption | with_reducible apply hU | ((with_reducible apply SqT.of); with_reducible assumption) | ((with_reducible apply same_seqT); with_reducible assumption) | ((with_reducible apply kp_seqT); with_reducible assumption) | ((with_reducible apply Dw.same); with_reducible assumption))); done)); exact rfl)   | ((with_reducible apply R.ixL); (focus ((repeat' (first | with_reducible assumption | ((with_reducible apply SqL.of); with_reducible assumption) | ((with_reducible apply Same.seq); with_reducible assumption) | ((with_reducible apply Kp.seqL); with_reducible assumption) | ((with_reducible apply fresh_ne); with_reducible assumption) | ((with_reducible apply Dw.same); with_reducible assumption))); done)); exact rfl)   | with_reducible assumption   | with_reducible apply Bd.mulW   | with_reducible apply Bd.mul   | with_reducible apply Bd.add   | with_reducible apply Bd.sub   | ((with_reducible apply Bd.l8); exact eq_true (by decide))   | ((with_reducible apply Bd.lit); exact eq_true (by decide))   | with_reducible apply Bd.neg   | with_reducible apply Bd.div   | ((with_reducible apply Bd.om); omega)   | ((with_reducible apply R.isLe); first | decide | omega)   | with_reducible apply R.un   | with_reducible apply R.u1   | with_reducible apply R.tup   | with_reducible apply R.lst   | with_reducible apply R.call   | with_reducible apply R.callB   | with_reducible apply R.gtup   | with_reducible apply R.gnil   | with_reducible apply R.seq   | with_reducible apply R.asg   | with_reducible apply R.ret   | with_reducible apply R.next   | with_reducible apply R.drop   | with_reducible apply R.par   | with_reducible apply R.par2   | with_reducible apply R.ifs   | with_reducible apply R.tif   | with_reducible apply R.test   | with_reducible apply R.tb'   | with_reducible apply R.isbl   | with_reducible apply R.cmp   | with_reducible apply R.t2i   | with_reducible apply R.intp   | with_reducible apply R.and   | with_reducible apply R.or   | with_reducible apply R.not   | with_reducible apply R.andV   | with_reducible apply R.orV   | with_reducible apply R.notV   | with_reducible apply R.chain   | with_reducible apply R.tupL   | with_reducible apply R.lstL   | with_reducible apply R.cat   | with_reducible apply R.isiT   | with_reducible apply R.isiTup   | with_reducible apply R.isiLst   | with_reducible apply R.nwT   | with_reducible apply R.nwL   | ((with_reducible apply R.mt); intro HN tn sn nn ht)   | ((with_reducible apply R.ml); intro HN tn sn nn ht)   | ((with_reducible apply R.ne4); focus ((repeat' (first | with_reducible assumption | with_reducible apply hU | ((with_reducible apply SqT.of); with_reducible assumption) | ((with_reducible apply same_seqT); with_reducible assumption) | ((with_reducible apply kp_seqT); with_reducible assumption) | ((with_reducible apply Dw.same); with_reducible assumption))); done))   | ((with_reducible apply R.ne3); focus ((repeat' (first | with_reducible assumption | with_reducible apply hU | ((with_reducible apply SqT.of); with_reducible assumption) | ((with_reducible apply same_seqT); with_reducible assumption) | ((with_reducible apply kp_seqT); with_reducible assumption) | ((with_reducible apply Dw.same); with_reducible assumption))); done))   | ((with_reducible apply R.ne2); focus ((repeat' (first | with_reducible assumption | with_reducible apply hU | ((with_reducible apply SqT.of); with_reducible assumption) | ((with_reducible apply same_seqT); with_reducible assumption) | ((with_reducible apply kp_seqT); with_reducible assumption) | ((with_reducible apply Dw.same); with_reducible assumption))); done))   | ((with_reducible apply R.eq4); focus ((repeat' (first | with_reducible assumption | with_reducible apply hU | ((with_reducible apply SqT.of); with_reducible assumption) | ((with_reducible apply same_seqT); with_reducible assumption) | ((with_reducible apply kp_seqT); with_reducible assumption) | ((with_reducible apply Dw.same); with_reducible assumption))); done))   | ((with_reducible apply R.eq3); focus ((repeat' (first | with_reducible assumption | with_reducible apply hU | ((with_reducible apply SqT.of); with_reducible assumption) | ((with_reducible apply same_seqT); with_reducible assumption) | ((with_reducible apply kp_seqT); with_reducible assumption) | ((with_reducible apply Dw.same); with_reducible assumption))); done))   | ((with_reducible apply R.eq2); focus ((repeat' (first | with_reducible assumption | with_reducible apply hU | ((with_reducible apply SqT.of); with_reducible assumption) | ((with_reducible apply same_seqT); with_reducible assumption) | ((with_reducible apply kp_seqT); with_reducible assumption) | ((with_reducible apply Dw.same); with_reducible assumption))); done))   | with_reducible apply uLawNext   | with_reducible apply uLawWide   | with_reducible apply uLawChange   | with_reducible apply uMultiply   | with_reducible apply uDeterminant   | with_reducible apply uApply   | with_reducible apply uNegative   | with_reducible apply uLawAt   | with_reducible apply uLawMul   | with_reducible apply uInverse   | ((with_reducible apply R.nw); intro HN tn sn ht)   | with_reducible apply iteT   | with_reducible apply iteF   | ((with_reducible apply SqT.of); with_reducible assumption)   | ((with_reducible apply SqL.of); with_reducible assumption)   | ((with_reducible apply same_seqT); with_reducible assumption)   | ((with_reducible apply sameB); with_reducible assumption)   | ((with_reducible apply same_at); with_reducible assumption)   | ((with_reducible apply kp_seqT); with_reducible assumption)   | ((with_reducible apply Same.seq); with_reducible assumption)   | ((with_reducible apply Kp.seqL); with_reducible assumption)   | ((with_reducible apply fresh_ne); with_reducible assumption)   | ((with_reducible apply Dw.same); with_reducible assumption)   | ((with_reducible apply R.isEq); exact eq_true (by first | decide | omega))   | ((with_reducible apply R.isLt); first | decide | omega)   | ((with_reducible apply R.isLtI); first | decide | omega)   | ((with_reducible apply R.isLeI); first | decide | omega)   | ((with_reducible apply R.cdiv); exact rfl)   | ((with_reducible apply R.cpow); exact rfl)   | with_reducible apply hU   | ((with_reducible apply wayNF); first | exact rfl | exact ⟨rfl, rfl⟩ | exact ⟨rfl, rfl, rfl⟩ | exact ⟨rfl, rfl, rfl, rfl⟩)   | with_reducible apply R.forE   | with_reducible apply R.rng1   | with_reducible apply R.rng2   | with_reducible apply R.rg1   | with_reducible apply R.rg2   | with_reducible apply R.lcE   | with_reducible apply R.itup   | with_reducible apply R.ilst   )))) (by (apply bdm; (repeat' (first   | with_reducible apply R.var   | ((with_reducible apply R.isEq); exact rfl)   | with_reducible apply R.op   | with_reducible apply R.i2   | with_reducible apply R.i0   | with_reducible apply R.con   | with_reducible apply R.cons   | with_reducible apply R.nil   | with_reducible apply R.gcons   | with_reducible apply R.gname   | ((with_reducible apply R.ixT); (focus ((repeat' (first | with_reducible assumption | with_reducible apply hU | ((with_reducible apply SqT.of); with_reducible assumption) | ((with_reducible apply same_seqT); with_reducible assumption) | ((with_reducible apply kp_seqT); with_reducible assumption) | ((with_reducible apply Dw.same); with_reducible assumption))); done)); exact rfl)   | ((with_reducible apply R.ixL); (focus ((repeat' (first | with_reducible assumption | ((with_reducible apply SqL.of); with_reducible assumption) | ((with_reducible apply Same.seq); with_reducible assumption) | ((with_reducible apply Kp.seqL); with_reducible assumption) | ((with_reducible apply fresh_ne); with_reducible assumption) | ((with_reducible apply Dw.same); with_reducible assumption))); done)); exact rfl)   | with_reducible assumption   | with_reducible apply Bd.mulW   | with_reducible apply Bd.mul   | with_reducible apply Bd.add   | with_reducible apply Bd.sub   | ((with_reducible apply Bd.l8); exact eq_true (by decide))   | ((with_reducible apply Bd.lit); exact eq_true (by decide))   | with_reducible apply Bd.neg   | with_reducible apply Bd.div   | ((with_reducible apply Bd.om); omega)   | ((with_reducible apply R.isLe); first | decide | omega)   | with_reducible apply R.un   | with_reducible apply R.u1   | with_reducible apply R.tup   | with_reducible apply R.lst   | with_reducible apply R.call   | with_reducible apply R.callB   | with_reducible apply R.gtup   | with_reducible apply R.gnil   | with_reducible apply R.seq   | with_reducible apply R.asg   | with_reducible apply R.ret   | with_reducible apply R.next   | with_reducible apply R.drop   | with_reducible apply R.par   | with_reducible apply R.par2   | with_reducible apply R.ifs   | with_reducible apply R.tif   | with_reducible apply R.test   | with_reducible apply R.tb'   | with_reducible apply R.isbl   | with_reducible apply R.cmp   | with_reducible apply R.t2i   | with_reducible apply R.intp   | with_reducible apply R.and   | with_reducible apply R.or   | with_reducible apply R.not   | with_reducible apply R.andV   | with_reducible apply R.orV   | with_reducible apply R.notV   | with_reducible apply R.chain   | with_reducible apply R.tupL   | with_reducible apply R.lstL   | with_reducible apply R.cat   | with_reducible apply R.isiT   | with_reducible apply R.isiTup   | with_reducible apply R.isiLst   | with_reducible apply R.nwT   | with_reducible apply R.nwL   | ((with_reducible apply R.mt); intro HN tn sn nn ht)   | ((with_reducible apply R.ml); intro HN tn sn nn ht)   | ((with_reducible apply R.ne4); focus ((repeat' (first | with_reducible assumption | with_reducible apply hU | ((with_reducible apply SqT.of); with_reducible assumption) | ((with_reducible apply same_seqT); with_reducible assumption) | ((with_reducible apply kp_seqT); with_reducible assumption) | ((with_reducible apply Dw.same); with_reducible assumption))); done))   | ((with_reducible apply R.ne3); focus ((repeat' (first | with_reducible assumption | with_reducible apply hU | ((with_reducible apply SqT.of); with_reducible assumption) | ((with_reducible apply same_seqT); with_reducible assumption) | ((with_reducible apply kp_seqT); with_reducible assumption) | ((with_reducible apply Dw.same); with_reducible assumption))); done))   | ((with_reducible apply R.ne2); focus ((repeat' (first | with_reducible assumption | with_reducible apply hU | ((with_reducible apply SqT.of); with_reducible assumption) | ((with_reducible apply same_seqT); with_reducible assumption) | ((with_reducible apply kp_seqT); with_reducible assumption) | ((with_reducible apply Dw.same); with_reducible assumption))); done))   | ((with_reducible apply R.eq4); focus ((repeat' (first | with_reducible assumption | with_reducible apply hU | ((with_reducible apply SqT.of); with_reducible assumption) | ((with_reducible apply same_seqT); with_reducible assumption) | ((with_reducible apply kp_seqT); with_reducible assumption) | ((with_reducible apply Dw.same); with_reducible assumption))); done))   | ((with_reducible apply R.eq3); focus ((repeat' (first | with_reducible assumption | with_reducible apply hU | ((with_reducible apply SqT.of); with_reducible assumption) | ((with_reducible apply same_seqT); with_reducible assumption) | ((with_reducible apply kp_seqT); with_reducible assumption) | ((with_reducible apply Dw.same); with_reducible assumption))); done))   | ((with_reducible apply R.eq2); focus ((repeat' (first | with_reducible assumption | with_reducible apply hU | ((with_reducible apply SqT.of); with_reducible assumption) | ((with_reducible apply same_seqT); with_reducible assumption) | ((with_reducible apply kp_seqT); with_reducible assumption) | ((with_reducible apply Dw.same); with_reducible assumption))); done))   | with_reducible apply uLawNext   | with_reducible apply uLawWide   | with_reducible apply uLawChange   | with_reducible apply uMultiply   | with_reducible apply uDeterminant   | with_reducible apply uApply   | with_reducible apply uNegative   | with_reducible apply uLawAt   | with_reducible apply uLawMul   | with_reducible apply uInverse   | ((with_reducible apply R.nw); intro HN tn sn ht)   | with_reducible apply iteT   | with_reducible apply iteF   | ((with_reducible apply SqT.of); with_reducible assumption)   | ((with_reducible apply SqL.of); with_reducible assumption)   | ((with_reducible apply same_seqT); with_reducible assumption)   | ((with_reducible apply sameB); with_reducible assumption)   | ((with_reducible apply same_at); with_reducible assumption)   | ((with_reducible apply kp_seqT); with_reducible assumption)   | ((with_reducible apply Same.seq); with_reducible assumption)   | ((with_reducible apply Kp.seqL); with_reducible assumption)   | ((with_reducible apply fresh_ne); with_reducible assumption)   | ((with_reducible apply Dw.same); with_reducible assumption)   | ((with_reducible apply R.isEq); exact eq_true (by first | decide | omega))   | ((with_reducible apply R.isLt); first | decide | omega)   | ((with_reducible apply R.isLtI); first | decide | omega)   | ((with_reducible apply R.isLeI); first | decide | omega)   | ((with_reducible apply R.cdiv); exact rfl)   | ((with_reducible apply R.cpow); exact rfl)   | with_reducible apply hU   | ((with_reducible apply wayNF); first | exact rfl | exact ⟨rfl, rfl⟩ | exact ⟨rfl, rfl, rfl⟩ | exact ⟨rfl, rfl, rfl, rfl⟩)   | with_reducible apply R.forE   | with_reducible apply R.rng1   | with_reducible apply R.rng2   | with_reducible apply R.rg1   | with_reducible apply R.rg2   | with_reducible apply R.lcE   | with_reducible apply R.itup   | with_reducible apply R.ilst   )))) (by (apply bdm; (repeat' (first   | with_reducible apply R.var   | ((with_reducible apply R.isEq); exact rfl)   | with_reducible apply R.op   | with_reducible apply R.i2   | with_reducible apply R.i0   | with_reducible apply R.con   | with_reducible apply R.cons   | with_reducible apply R.nil   | with_reducible apply R.gcons   | with_reducible apply R.gname   | ((with_reducible apply R.ixT); (focus ((repeat' (first | with_reducible assumption | with_reducible apply hU | ((with_reducible apply SqT.of); with_reducible assumption) | ((with_reducible apply same_seqT); with_reducible assumption) | ((with_reducible apply kp_seqT); with_reducible assumption) | ((with_reducible apply Dw.same); with_reducible assumption))); done)); exact rfl)   | ((with_reducible apply R.ixL); (focus ((repeat' (first | with_reducible assumption | ((with_reducible apply SqL.of); with_reducible assumption) | ((with_reducible apply Same.seq); with_reducible assumption) | ((with_reducible apply Kp.seqL); with_reducible assumption) | ((with_reducible apply fresh_ne); with_reducible assumption) | ((with_reducible apply Dw.same); with_reducible assumption))); done)); exact rfl)   | with_reducible assumption   | with_reducible apply Bd.mulW   | with_reducible apply Bd.mul   | with_reducible apply Bd.add   | with_reducible apply Bd.sub   | ((with_reducible apply Bd.l8); exact eq_true (by decide))   | ((with_reducible apply Bd.lit); exact eq_true (by decide))   | with_reducible apply Bd.neg   | with_reducible apply Bd.div   | ((with_reducible apply Bd.om); omega)   | ((with_reducible apply R.isLe); first | decide | omega)   | with_reducible apply R.un   | with_reducible apply R.u1   | with_reducible apply R.tup   | with_reducible apply R.lst   | with_reducible apply R.call   | with_reducible apply R.callB   | with_reducible apply R.gtup   | with_reducible apply R.gnil   | with_reducible apply R.seq   | with_reducible apply R.asg   | with_reducible apply R.ret   | with_reducible apply R.next   | with_reducible apply R.drop   | with_reducible apply R.par   | with_reducible apply R.par2   | with_reducible apply R.ifs   | with_reducible apply R.tif   | with_reducible apply R.test   | with_reducible apply R.tb'   | with_reducible apply R.isbl   | with_reducible apply R.cmp   | with_reducible apply R.t2i   | with_reducible apply R.intp   | with_reducible apply R.and   | with_reducible apply R.or   | with_reducible apply R.not   | with_reducible apply R.andV   | with_reducible apply R.orV   | with_reducible apply R.notV   | with_reducible apply R.chain   | with_reducible apply R.tupL   | with_reducible apply R.lstL   | with_reducible apply R.cat   | with_reducible apply R.isiT   | with_reducible apply R.isiTup   | with_reducible apply R.isiLst   | with_reducible apply R.nwT   | with_reducible apply R.nwL   | ((with_reducible apply R.mt); intro HN tn sn nn ht)   | ((with_reducible apply R.ml); intro HN tn sn nn ht)   | ((with_reducible apply R.ne4); focus ((repeat' (first | with_reducible assumption | with_reducible apply hU | ((with_reducible apply SqT.of); with_reducible assumption) | ((with_reducible apply same_seqT); with_reducible assumption) | ((with_reducible apply kp_seqT); with_reducible assumption) | ((with_reducible apply Dw.same); with_reducible assumption))); done))   | ((with_reducible apply R.ne3); focus ((repeat' (first | with_reducible assumption | with_reducible apply hU | ((with_reducible apply SqT.of); with_reducible assumption) | ((with_reducible apply same_seqT); with_reducible assumption) | ((with_reducible apply kp_seqT); with_reducible assumption) | ((with_reducible apply Dw.same); with_reducible assumption))); done))   | ((with_reducible apply R.ne2); focus ((repeat' (first | with_reducible assumption | with_reducible apply hU | ((with_reducible apply SqT.of); with_reducible assumption) | ((with_reducible apply same_seqT); with_reducible assumption) | ((with_reducible apply kp_seqT); with_reducible assumption) | ((with_reducible apply Dw.same); with_reducible assumption))); done))   | ((with_reducible apply R.eq4); focus ((repeat' (first | with_reducible assumption | with_reducible apply hU | ((with_reducible apply SqT.of); with_reducible assumption) | ((with_reducible apply same_seqT); with_reducible assumption) | ((with_reducible apply kp_seqT); with_reducible assumption) | ((with_reducible apply Dw.same); with_reducible assumption))); done))   | ((with_reducible apply R.eq3); focus ((repeat' (first | with_reducible assumption | with_reducible apply hU | ((with_reducible apply SqT.of); with_reducible assumption) | ((with_reducible apply same_seqT); with_reducible assumption) | ((with_reducible apply kp_seqT); with_reducible assumption) | ((with_reducible apply Dw.same); with_reducible assumption))); done))   | ((with_reducible apply R.eq2); focus ((repeat' (first | with_reducible assumption | with_reducible apply hU | ((with_reducible apply SqT.of); with_reducible assumption) | ((with_reducible apply same_seqT); with_reducible assumption) | ((with_reducible apply kp_seqT); with_reducible assumption) | ((with_reducible apply Dw.same); with_reducible assumption))); done))   | with_reducible apply uLawNext   | with_reducible apply uLawWide   | with_reducible apply uLawChange   | with_reducible apply uMultiply   | with_reducible apply uDeterminant   | with_reducible apply uApply   | with_reducible apply uNegative   | with_reducible apply uLawAt   | with_reducible apply uLawMul   | with_reducible apply uInverse   | ((with_reducible apply R.nw); intro HN tn sn ht)   | with_reducible apply iteT   | with_reducible apply iteF   | ((with_reducible apply SqT.of); with_reducible assumption)   | ((with_reducible apply SqL.of); with_reducible assumption)   | ((with_reducible apply same_seqT); with_reducible assumption)   | ((with_reducible apply sameB); with_reducible assumption)   | ((with_reducible apply same_at); with_reducible assumption)   | ((with_reducible apply kp_seqT); with_reducible assumption)   | ((with_reducible apply Same.seq); with_reducible assumption)   | ((with_reducible apply Kp.seqL); with_reducible assumption)   | ((with_reducible apply fresh_ne); with_reducible assumption)   | ((with_reducible apply Dw.same); with_reducible assumption)   | ((with_reducible apply R.isEq); exact eq_true (by first | decide | omega))   | ((with_reducible apply R.isLt); first | decide | omega)   | ((with_reducible apply R.isLtI); first | decide | omega)   | ((with_reducible apply R.isLeI); first | decide | omega)   | ((with_reducible apply R.cdiv); exact rfl)   | ((with_reducible apply R.cpow); exact rfl)   | with_reducible apply hU   | ((with_reducible apply wayNF); first | exact rfl | exact ⟨rfl, rfl⟩ | exact ⟨rfl, rfl, rfl⟩ | exact ⟨rfl, rfl, rfl, rfl⟩)   | with_reducible apply R.forE   | with_reducible apply R.rng1   | with_reducible apply R.rng2   | with_reducible apply R.rg1   | with_reducible apply R.rg2   | with_reducible apply R.lcE   | with_reducible apply R.itup   | with_reducible apply R.ilst   )))) (x1 := (rz (c1, c2, c3, c4) (-nv)).1) (x2 := (rz (c1, c2, c3, c4) (-nv)).2.1) (x3 := (rz (c1, c2, c3, c4) (-nv)).2.2.1) (x4 := (rz (c1, c2, c3, c4) (-nv)).2.2.2) rfl ?_
      repeat' (first
        | with_reducible apply R.var
        | ((with_reducible apply R.isEq); exact rfl)
        | with_reducible apply R.op
        | with_reducible apply R.i2
        | with_reducible apply R.i0
        | with_reducible apply R.con
        | with_reducible apply R.cons
        | with_reducible apply R.nil
        | with_reducible apply R.gcons
        | with_reducible apply R.gname
        | ((with_reducible apply R.ixT); (focus ((repeat' (first | with_reducible assumption | with_reducible apply hU | ((with_reducible apply SqT.of); with_reducible assumption) | ((with_reducible apply same_seqT); with_reducible assumption) | ((with_reducible apply kp_seqT); with_reducible assumption) | ((with_reducible apply Dw.same); with_reducible assumption))); done)); exact rfl)
        | ((with_reducible apply R.ixL); (focus ((repeat' (first | with_reducible assumption | ((with_reducible apply SqL.of); with_reducible assumption) | ((with_reducible apply Same.seq); with_reducible assumption) | ((with_reducible apply Kp.seqL); with_reducible assumption) | ((with_reducible apply fresh_ne); with_reducible assumption) | ((with_reducible apply Dw.same); with_reducible assumption))); done)); exact rfl)
        | with_reducible assumption
        | with_reducible apply Bd.mulW
        | with_reducible apply Bd.mul
        | with_reducible apply Bd.add
        | with_reducible apply Bd.sub
        | ((with_reducible apply Bd.l8); exact eq_true (by decide))
        | ((with_reducible apply Bd.lit); exact eq_true (by decide))
        | with_reducible apply Bd.neg
        | with_reducible apply Bd.div
        | ((with_reducible apply Bd.om); omega)
        | ((with_reducible apply R.isLe); first | decide | omega)
        | with_reducible apply R.un
        | with_reducible apply R.u1
        | with_reducible apply R.tup
        | with_reducible apply R.lst
        | with_reducible apply R.call
        | with_reducible apply R.callB
        | with_reducible apply R.gtup
        | with_reducible apply R.gnil
        | with_reducible apply R.seq
        | with_reducible apply R.asg
        | with_reducible apply R.ret
        | with_reducible apply R.next
        | with_reducible apply R.drop
        | with_reducible apply R.par
        | with_reducible apply R.par2
        | with_reducible apply R.ifs
        | with_reducible apply R.tif
        | with_reducible apply R.test
        | with_reducible apply R.tb'
        | with_reducible apply R.isbl
        | with_reducible apply R.cmp
        | with_reducible apply R.t2i
        | with_reducible apply R.intp
        | with_reducible apply R.and
        | with_reducible apply R.or
        | with_reducible apply R.not
        | with_reducible apply R.andV
        | with_reducible apply R.orV
        | with_reducible apply R.notV
        | with_reducible apply R.chain
        | with_reducible apply R.tupL
        | with_reducible apply R.lstL
        | with_reducible apply R.cat
        | with_reducible apply R.isiT
        | with_reducible apply R.isiTup
        | with_reducible apply R.isiLst
        | with_reducible apply R.nwT
        | with_reducible apply R.nwL
        | ((with_reducible apply R.mt); intro HN tn sn nn ht)
        | ((with_reducible apply R.ml); intro HN tn sn nn ht)
        | ((with_reducible apply R.ne4); focus ((repeat' (first | with_reducible assumption | with_reducible apply hU | ((with_reducible apply SqT.of); with_reducible assumption) | ((with_reducible apply same_seqT); with_reducible assumption) | ((with_reducible apply kp_seqT); with_reducible assumption) | ((with_reducible apply Dw.same); with_reducible assumption))); done))
        | ((with_reducible apply R.ne3); focus ((repeat' (first | with_reducible assumption | with_reducible apply hU | ((with_reducible apply SqT.of); with_reducible assumption) | ((with_reducible apply same_seqT); with_reducible assumption) | ((with_reducible apply kp_seqT); with_reducible assumption) | ((with_reducible apply Dw.same); with_reducible assumption))); done))
        | ((with_reducible apply R.ne2); focus ((repeat' (first | with_reducible assumption | with_reducible apply hU | ((with_reducible apply SqT.of); with_reducible assumption) | ((with_reducible apply same_seqT); with_reducible assumption) | ((with_reducible apply kp_seqT); with_reducible assumption) | ((with_reducible apply Dw.same); with_reducible assumption))); done))
        | ((with_reducible apply R.eq4); focus ((repeat' (first | with_reducible assumption | with_reducible apply hU | ((with_reducible apply SqT.of); with_reducible assumption) | ((with_reducible apply same_seqT); with_reducible assumption) | ((with_reducible apply kp_seqT); with_reducible assumption) | ((with_reducible apply Dw.same); with_reducible assumption))); done))
        | ((with_reducible apply R.eq3); focus ((repeat' (first | with_reducible assumption | with_reducible apply hU | ((with_reducible apply SqT.of); with_reducible assumption) | ((with_reducible apply same_seqT); with_reducible assumption) | ((with_reducible apply kp_seqT); with_reducible assumption) | ((with_reducible apply Dw.same); with_reducible assumption))); done))
        | ((with_reducible apply R.eq2); focus ((repeat' (first | with_reducible assumption | with_reducible apply hU | ((with_reducible apply SqT.of); with_reducible assumption) | ((with_reducible apply same_seqT); with_reducible assumption) | ((with_reducible apply kp_seqT); with_reducible assumption) | ((with_reducible apply Dw.same); with_reducible assumption))); done))
        | with_reducible apply uLawNext
        | with_reducible apply uLawWide
        | with_reducible apply uLawChange
        | with_reducible apply uMultiply
        | with_reducible apply uDeterminant
        | with_reducible apply uApply
        | with_reducible apply uNegative
        | with_reducible apply uLawAt
        | with_reducible apply uLawMul
        | with_reducible apply uInverse
        | ((with_reducible apply R.nw); intro HN tn sn ht)
        | with_reducible apply iteT
        | with_reducible apply iteF
        | ((with_reducible apply SqT.of); with_reducible assumption)
        | ((with_reducible apply SqL.of); with_reducible assumption)
        | ((with_reducible apply same_seqT); with_reducible assumption)
        | ((with_reducible apply sameB); with_reducible assumption)
        | ((with_reducible apply same_at); with_reducible assumption)
        | ((with_reducible apply kp_seqT); with_reducible assumption)
        | ((with_reducible apply Same.seq); with_reducible assumption)
        | ((with_reducible apply Kp.seqL); with_reducible assumption)
        | ((with_reducible apply fresh_ne); with_reducible assumption)
        | ((with_reducible apply Dw.same); with_reducible assumption)
        | ((with_reducible apply R.isEq); exact eq_true (by first | decide | omega))
        | ((with_reducible apply R.isLt); first | decide | omega)
        | ((with_reducible apply R.isLtI); first | decide | omega)
        | ((with_reducible apply R.isLeI); first | decide | omega)
        | ((with_reducible apply R.cdiv); exact rfl)
        | ((with_reducible apply R.cpow); exact rfl)
        | with_reducible apply hU
        | ((with_reducible apply wayNF); first | exact rfl | exact ⟨rfl, rfl⟩ | exact ⟨rfl, rfl, rfl⟩ | exact ⟨rfl, rfl, rfl, rfl⟩)
        | with_reducible apply R.forE
        | with_reducible apply R.rng1
        | with_reducible apply R.rng2
        | with_reducible apply R.rg1
        | with_reducible apply R.rg2
        | with_reducible apply R.lcE
        | with_reducible apply R.itup
        | with_reducible apply R.ilst
        )
      generalize rz (c1, c2, c3, c4) (-nv) = Z at *
      generalize mpw (c1, c2, c3, c4) nv.toNat = Y at *
      have q1 : Z.1 * Y.1 + Z.2.1 * Y.2.2.1 = 1 := congrArg (fun t : T4 => t.1) zi
      have q2 : Z.1 * Y.2.1 + Z.2.1 * Y.2.2.2 = 0 := congrArg (fun t : T4 => t.2.1) zi
      have q3 : Z.2.2.1 * Y.1 + Z.2.2.2 * Y.2.2.1 = 0 := congrArg (fun t : T4 => t.2.2.1) zi
      have q4 : Z.2.2.1 * Y.2.1 + Z.2.2.2 * Y.2.2.2 = 1 := congrArg (fun t : T4 => t.2.2.2) zi
      rw [decide_eq_true (show _ ∧ _ ∧ _ ∧ _ from ⟨q1, q2, q3, q4⟩)]
      exact qq _
end
theorem all_mk {l : PySem.W.OpenLaw} {w : World} {K : PySem.W.Frag} {h : Heap} {mg : Str → Option Value} {f : Addr} (X : K.In h) (G : h.Ns mainGlobals mg) (hfa : mg "law" = some (.ref f))
    {f0 f1 f2 f3 f4 f5 f6 f7 f8 f9 f10 f11 f12 f13 f14 f15 : Addr}
    {od0 an0 od1 an1 od2 an2 od3 an3 od4 an4 od5 an5 od6 an6 od7 an7 od8 an8 od9 an9 od10 an10 od11 an11 od12 an12 od13 an13 od14 an14 od15 an15 : Option Addr} {sl0 sl1 sl2 sl3 sl4 sl5 sl6 sl7 sl8 sl9 sl10 sl11 sl12 sl13 sl14 sl15 : Array (Option Value)}
    {oc0 kV0 dc0 pm0 cd0 ct0 oc1 kV1 dc1 pm1 cd1 ct1 oc2 kV2 dc2 pm2 cd2 ct2 oc3 kV3 dc3 pm3 cd3 ct3 oc4 kV4 dc4 pm4 cd4 ct4 oc5 kV5 dc5 pm5 cd5 ct5 oc6 kV6 dc6 pm6 cd6 ct6 oc7 kV7 dc7 pm7 cd7 ct7 oc8 kV8 dc8 pm8 cd8 ct8 oc9 kV9 dc9 pm9 cd9 ct9 oc10 kV10 dc10 pm10 cd10 ct10 oc11 kV11 dc11 pm11 cd11 ct11 oc12 kV12 dc12 pm12 cd12 ct12 oc13 kV13 dc13 pm13 cd13 ct13 oc14 kV14 dc14 pm14 cd14 ct14 oc15 kV15 dc15 pm15 cd15 ct15 : Value}
    (a0 : PySem.W.nsIn K mainGlobals "multiply" = some (some (.ref f0))) (l0 : K.lookup f0 = some ⟨oc0, od0, .func (PySem.W.fnOf "multiply" "multiply" (defArgs sMultiply) (defBody sMultiply) (defScope sMultiply) .none kV0 dc0 pm0 an0 cd0 ct0), sl0⟩) (c0 : PySem.W.codeIn K cd0 "multiply" = true) (k0 : PySem.W.keepIn K (.ref f0) = true)
    (a1 : PySem.W.nsIn K mainGlobals "determinant" = some (some (.ref f1))) (l1 : K.lookup f1 = some ⟨oc1, od1, .func (PySem.W.fnOf "determinant" "determinant" (defArgs sDeterminant) (defBody sDeterminant) (defScope sDeterminant) .none kV1 dc1 pm1 an1 cd1 ct1), sl1⟩) (c1 : PySem.W.codeIn K cd1 "determinant" = true) (k1 : PySem.W.keepIn K (.ref f1) = true)
    (a2 : PySem.W.nsIn K mainGlobals "apply" = some (some (.ref f2))) (l2 : K.lookup f2 = some ⟨oc2, od2, .func (PySem.W.fnOf "apply" "apply" (defArgs sApply) (defBody sApply) (defScope sApply) .none kV2 dc2 pm2 an2 cd2 ct2), sl2⟩) (c2 : PySem.W.codeIn K cd2 "apply" = true) (k2 : PySem.W.keepIn K (.ref f2) = true)
    (a3 : PySem.W.nsIn K mainGlobals "negative" = some (some (.ref f3))) (l3 : K.lookup f3 = some ⟨oc3, od3, .func (PySem.W.fnOf "negative" "negative" (defArgs sNegative) (defBody sNegative) (defScope sNegative) .none kV3 dc3 pm3 an3 cd3 ct3), sl3⟩) (c3 : PySem.W.codeIn K cd3 "negative" = true) (k3 : PySem.W.keepIn K (.ref f3) = true)
    (a4 : PySem.W.nsIn K mainGlobals "inverse" = some (some (.ref f4))) (l4 : K.lookup f4 = some ⟨oc4, od4, .func (PySem.W.fnOf "inverse" "inverse" (defArgs sInverse) (defBody sInverse) (defScope sInverse) .none kV4 dc4 pm4 an4 cd4 ct4), sl4⟩) (c4 : PySem.W.codeIn K cd4 "inverse" = true) (k4 : PySem.W.keepIn K (.ref f4) = true)
    (a5 : PySem.W.nsIn K mainGlobals "raised" = some (some (.ref f5))) (l5 : K.lookup f5 = some ⟨oc5, od5, .func (PySem.W.fnOf "raised" "raised" (defArgs sRaised) (defBody sRaised) (defScope sRaised) .none kV5 dc5 pm5 an5 cd5 ct5), sl5⟩) (c5 : PySem.W.codeIn K cd5 "raised" = true) (k5 : PySem.W.keepIn K (.ref f5) = true)
    (a6 : PySem.W.nsIn K mainGlobals "_power_parts" = some (some (.ref f6))) (l6 : K.lookup f6 = some ⟨oc6, od6, .func (PySem.W.fnOf "_power_parts" "_power_parts" (defArgs sPowerParts) (defBody sPowerParts) (defScope sPowerParts) .none kV6 dc6 pm6 an6 cd6 ct6), sl6⟩) (c6 : PySem.W.codeIn K cd6 "_power_parts" = true) (k6 : PySem.W.keepIn K (.ref f6) = true)
    (a7 : PySem.W.nsIn K mainGlobals "_law_cell" = some (some (.ref f7))) (l7 : K.lookup f7 = some ⟨oc7, od7, .func (PySem.W.fnOf "_law_cell" "_law_cell" (defArgs sLawCell) (defBody sLawCell) (defScope sLawCell) .none kV7 dc7 pm7 an7 cd7 ct7), sl7⟩) (c7 : PySem.W.codeIn K cd7 "_law_cell" = true) (k7 : PySem.W.keepIn K (.ref f7) = true)
    (a8 : PySem.W.nsIn K mainGlobals "_law_numbers" = some (some (.ref f8))) (l8 : K.lookup f8 = some ⟨oc8, od8, .func (PySem.W.fnOf "_law_numbers" "_law_numbers" (defArgs sLawNumbers) (defBody sLawNumbers) (defScope sLawNumbers) .none kV8 dc8 pm8 an8 cd8 ct8), sl8⟩) (c8 : PySem.W.codeIn K cd8 "_law_numbers" = true) (k8 : PySem.W.keepIn K (.ref f8) = true)
    (a9 : PySem.W.nsIn K mainGlobals "_law_state" = some (some (.ref f9))) (l9 : K.lookup f9 = some ⟨oc9, od9, .func (PySem.W.fnOf "_law_state" "_law_state" (defArgs sLawState) (defBody sLawState) (defScope sLawState) .none kV9 dc9 pm9 an9 cd9 ct9), sl9⟩) (c9 : PySem.W.codeIn K cd9 "_law_state" = true) (k9 : PySem.W.keepIn K (.ref f9) = true)
    (a10 : PySem.W.nsIn K mainGlobals "_law_next" = some (some (.ref f10))) (l10 : K.lookup f10 = some ⟨oc10, od10, .func (PySem.W.fnOf "_law_next" "_law_next" (defArgs sLawNext) (defBody sLawNext) (defScope sLawNext) .none kV10 dc10 pm10 an10 cd10 ct10), sl10⟩) (c10 : PySem.W.codeIn K cd10 "_law_next" = true) (k10 : PySem.W.keepIn K (.ref f10) = true)
    (a11 : PySem.W.nsIn K mainGlobals "_law_wide" = some (some (.ref f11))) (l11 : K.lookup f11 = some ⟨oc11, od11, .func (PySem.W.fnOf "_law_wide" "_law_wide" (defArgs sLawWide) (defBody sLawWide) (defScope sLawWide) .none kV11 dc11 pm11 an11 cd11 ct11), sl11⟩) (c11 : PySem.W.codeIn K cd11 "_law_wide" = true) (k11 : PySem.W.keepIn K (.ref f11) = true)
    (a12 : PySem.W.nsIn K mainGlobals "_law_mul" = some (some (.ref f12))) (l12 : K.lookup f12 = some ⟨oc12, od12, .func (PySem.W.fnOf "_law_mul" "_law_mul" (defArgs sLawMul) (defBody sLawMul) (defScope sLawMul) .none kV12 dc12 pm12 an12 cd12 ct12), sl12⟩) (c12 : PySem.W.codeIn K cd12 "_law_mul" = true) (k12 : PySem.W.keepIn K (.ref f12) = true)
    (a13 : PySem.W.nsIn K mainGlobals "_law_at" = some (some (.ref f13))) (l13 : K.lookup f13 = some ⟨oc13, od13, .func (PySem.W.fnOf "_law_at" "_law_at" (defArgs sLawAt) (defBody sLawAt) (defScope sLawAt) .none kV13 dc13 pm13 an13 cd13 ct13), sl13⟩) (c13 : PySem.W.codeIn K cd13 "_law_at" = true) (k13 : PySem.W.keepIn K (.ref f13) = true)
    (a14 : PySem.W.nsIn K mainGlobals "_law_change" = some (some (.ref f14))) (l14 : K.lookup f14 = some ⟨oc14, od14, .func (PySem.W.fnOf "_law_change" "_law_change" (defArgs sLawChange) (defBody sLawChange) (defScope sLawChange) .none kV14 dc14 pm14 an14 cd14 ct14), sl14⟩) (c14 : PySem.W.codeIn K cd14 "_law_change" = true) (k14 : PySem.W.keepIn K (.ref f14) = true)
    (a15 : PySem.W.nsIn K mainGlobals "law" = some (some (.ref f15))) (l15 : K.lookup f15 = some ⟨oc15, od15, .func (PySem.W.fnOf "law" "law" (defArgs sLaw) (defBody sLaw) (defScope sLaw) .none kV15 dc15 pm15 an15 cd15 ct15), sl15⟩) (c15 : PySem.W.codeIn K cd15 "law" = true) (k15 : PySem.W.keepIn K (.ref f15) = true)
    (z0 : PySem.W.nsIn K mainGlobals "abs" = some none)
    (z1 : PySem.W.nsIn K mainGlobals "int" = some none)
    (z2 : PySem.W.nsIn K mainGlobals "len" = some none)
    (z3 : PySem.W.nsIn K mainGlobals "range" = some none)
    (z4 : PySem.W.nsIn K mainGlobals "tuple" = some none)
    {fw0 : Addr} {odw0 : Option Addr} {itw0 : Array Value} {nw0 : Nat} {slw0 : Array (Option Value)}
    (w0 : PySem.W.nsIn K mainGlobals "UNIT" = some (some (.ref fw0))) (x0 : K.lookup fw0 = some ⟨.type "tuple", odw0, .seq itw0 nw0, slw0⟩) (y0 : itw0.size ≤ sizeLine) (v0 : Vals [.int 1, .int 0, .int 0, .int 1] itw0.toList)
    : ∃ fd : FuncData, (∀ (s : Shared) (v : Value), BindsTo s fd ⟨[v], []⟩ [("script", v)]) ∧ ∀ base : Heap, K.In base → base.Ns mainGlobals mg → FnOk l.prog w K mg base CX0 15 f fd ["script"] (spLaw K) := by
  have e := hfa.symm.trans (PySem.W.mg_of X G a15)
  cases e
  have F0 := fun_mk (st := sMultiply) l0 c0 k0
  have F1 := fun_mk (st := sDeterminant) l1 c1 k1
  have F2 := fun_mk (st := sApply) l2 c2 k2
  have F3 := fun_mk (st := sNegative) l3 c3 k3
  have F4 := fun_mk (st := sInverse) l4 c4 k4
  have F5 := fun_mk (st := sRaised) l5 c5 k5
  have F6 := fun_mk (st := sPowerParts) l6 c6 k6
  have F7 := fun_mk (st := sLawCell) l7 c7 k7
  have F8 := fun_mk (st := sLawNumbers) l8 c8 k8
  have F9 := fun_mk (st := sLawState) l9 c9 k9
  have F10 := fun_mk (st := sLawNext) l10 c10 k10
  have F11 := fun_mk (st := sLawWide) l11 c11 k11
  have F12 := fun_mk (st := sLawMul) l12 c12 k12
  have F13 := fun_mk (st := sLawAt) l13 c13 k13
  have F14 := fun_mk (st := sLawChange) l14 c14 k14
  have F15 := fun_mk (st := sLaw) l15 c15 k15
  have b0 := F0.binds (ps := ["m", "n"]) fun _ _ _ _ _ _ us hl => match us, hl with | [_, _], _ => rfl
  have b1 := F1.binds (ps := ["m"]) fun _ _ _ _ _ _ us hl => match us, hl with | [_], _ => rfl
  have b2 := F2.binds (ps := ["m", "point"]) fun _ _ _ _ _ _ us hl => match us, hl with | [_, _], _ => rfl
  have b3 := F3.binds (ps := ["m"]) fun _ _ _ _ _ _ us hl => match us, hl with | [_], _ => rfl
  have b4 := F4.binds (ps := ["m"]) fun _ _ _ _ _ _ us hl => match us, hl with | [_], _ => rfl
  have b5 := F5.binds (ps := ["m", "many"]) fun _ _ _ _ _ _ us hl => match us, hl with | [_, _], _ => rfl
  have b6 := F6.binds (ps := ["trace", "sign", "many"]) fun _ _ _ _ _ _ us hl => match us, hl with | [_, _, _], _ => rfl
  have b7 := F7.binds (ps := ["script", "k"]) fun _ _ _ _ _ _ us hl => match us, hl with | [_, _], _ => rfl
  have b8 := F8.binds (ps := ["cell", "many"]) fun _ _ _ _ _ _ us hl => match us, hl with | [_, _], _ => rfl
  have b9 := F9.binds (ps := ["script"]) fun _ _ _ _ _ _ us hl => match us, hl with | [_], _ => rfl
  have b10 := F10.binds (ps := ["state", "many"]) fun _ _ _ _ _ _ us hl => match us, hl with | [_, _], _ => rfl
  have b11 := F11.binds (ps := ["state", "many"]) fun _ _ _ _ _ _ us hl => match us, hl with | [_, _], _ => rfl
  have b12 := F12.binds (ps := ["m", "n"]) fun _ _ _ _ _ _ us hl => match us, hl with | [_, _], _ => rfl
  have b13 := F13.binds (ps := ["m", "x", "y"]) fun _ _ _ _ _ _ us hl => match us, hl with | [_, _, _], _ => rfl
  have b14 := F14.binds (ps := ["state", "many"]) fun _ _ _ _ _ _ us hl => match us, hl with | [_, _], _ => rfl
  have b15 := F15.binds (ps := ["script"]) fun _ _ _ _ _ _ us hl => match us, hl with | [_], _ => rfl
  let fa : Nat → Addr := fun i => [f0, f1, f2, f3, f4, f5, f6, f7, f8, f9, f10, f11, f12, f13, f14, f, fw0].getD i 0
  let fd : Nat → FuncData := fun i => match i with
    | 0 => PySem.W.fnOf "multiply" "multiply" (defArgs sMultiply) (defBody sMultiply) (defScope sMultiply) .none kV0 dc0 pm0 an0 cd0 ct0
    | 1 => PySem.W.fnOf "determinant" "determinant" (defArgs sDeterminant) (defBody sDeterminant) (defScope sDeterminant) .none kV1 dc1 pm1 an1 cd1 ct1
    | 2 => PySem.W.fnOf "apply" "apply" (defArgs sApply) (defBody sApply) (defScope sApply) .none kV2 dc2 pm2 an2 cd2 ct2
    | 3 => PySem.W.fnOf "negative" "negative" (defArgs sNegative) (defBody sNegative) (defScope sNegative) .none kV3 dc3 pm3 an3 cd3 ct3
    | 4 => PySem.W.fnOf "inverse" "inverse" (defArgs sInverse) (defBody sInverse) (defScope sInverse) .none kV4 dc4 pm4 an4 cd4 ct4
    | 5 => PySem.W.fnOf "raised" "raised" (defArgs sRaised) (defBody sRaised) (defScope sRaised) .none kV5 dc5 pm5 an5 cd5 ct5
    | 6 => PySem.W.fnOf "_power_parts" "_power_parts" (defArgs sPowerParts) (defBody sPowerParts) (defScope sPowerParts) .none kV6 dc6 pm6 an6 cd6 ct6
    | 7 => PySem.W.fnOf "_law_cell" "_law_cell" (defArgs sLawCell) (defBody sLawCell) (defScope sLawCell) .none kV7 dc7 pm7 an7 cd7 ct7
    | 8 => PySem.W.fnOf "_law_numbers" "_law_numbers" (defArgs sLawNumbers) (defBody sLawNumbers) (defScope sLawNumbers) .none kV8 dc8 pm8 an8 cd8 ct8
    | 9 => PySem.W.fnOf "_law_state" "_law_state" (defArgs sLawState) (defBody sLawState) (defScope sLawState) .none kV9 dc9 pm9 an9 cd9 ct9
    | 10 => PySem.W.fnOf "_law_next" "_law_next" (defArgs sLawNext) (defBody sLawNext) (defScope sLawNext) .none kV10 dc10 pm10 an10 cd10 ct10
    | 11 => PySem.W.fnOf "_law_wide" "_law_wide" (defArgs sLawWide) (defBody sLawWide) (defScope sLawWide) .none kV11 dc11 pm11 an11 cd11 ct11
    | 12 => PySem.W.fnOf "_law_mul" "_law_mul" (defArgs sLawMul) (defBody sLawMul) (defScope sLawMul) .none kV12 dc12 pm12 an12 cd12 ct12
    | 13 => PySem.W.fnOf "_law_at" "_law_at" (defArgs sLawAt) (defBody sLawAt) (defScope sLawAt) .none kV13 dc13 pm13 an13 cd13 ct13
    | 14 => PySem.W.fnOf "_law_change" "_law_change" (defArgs sLawChange) (defBody sLawChange) (defScope sLawChange) .none kV14 dc14 pm14 an14 cd14 ct14
    | _ => PySem.W.fnOf "law" "law" (defArgs sLaw) (defBody sLaw) (defScope sLaw) .none kV15 dc15 pm15 an15 cd15 ct15
  have T : Txt K mg fa fd := {
    F_multiply := F0, B_multiply := b0, G_multiply := PySem.W.mg_of X G a0,
    F_determinant := F1, B_determinant := b1, G_determinant := PySem.W.mg_of X G a1,
    F_apply := F2, B_apply := b2, G_apply := PySem.W.mg_of X G a2,
    F_negative := F3, B_negative := b3, G_negative := PySem.W.mg_of X G a3,
    F_inverse := F4, B_inverse := b4, G_inverse := PySem.W.mg_of X G a4,
    F_raised := F5, B_raised := b5, G_raised := PySem.W.mg_of X G a5,
    F__power_parts := F6, B__power_parts := b6, G__power_parts := PySem.W.mg_of X G a6,
    F__law_cell := F7, B__law_cell := b7, G__law_cell := PySem.W.mg_of X G a7,
    F__law_numbers := F8, B__law_numbers := b8, G__law_numbers := PySem.W.mg_of X G a8,
    F__law_state := F9, B__law_state := b9, G__law_state := PySem.W.mg_of X G a9,
    F__law_next := F10, B__law_next := b10, G__law_next := PySem.W.mg_of X G a10,
    F__law_wide := F11, B__law_wide := b11, G__law_wide := PySem.W.mg_of X G a11,
    F__law_mul := F12, B__law_mul := b12, G__law_mul := PySem.W.mg_of X G a12,
    F__law_at := F13, B__law_at := b13, G__law_at := PySem.W.mg_of X G a13,
    F__law_change := F14, B__law_change := b14, G__law_change := PySem.W.mg_of X G a14,
    F_law := F15, B_law := b15, G_law := PySem.W.mg_of X G a15,
    m_abs := PySem.W.mg_none_of X G z0, m_int := PySem.W.mg_none_of X G z1, m_len := PySem.W.mg_none_of X G z2, m_range := PySem.W.mg_none_of X G z3, m_tuple := PySem.W.mg_none_of X G z4, g_UNIT := PySem.W.mg_of X G w0, S_UNIT := fun H => .inr ⟨_, _, _, x0, rfl, rfl, y0, v0⟩ }
  exact ⟨fd 15, fun s v => .of_eq rfl, fun base _ _ => okLaw T⟩
end Wc
open PySem PySem.W PyProof.Rows
set_option maxHeartbeats 0 in
theorem PySem.Challenge.cw_wholeconic_k07_matrices_holds : PySem.Challenge.rw_wholeconic_k07_matrices.Holds := by
  w_on; o_law; k_head; (case hw => w_witness2)
  k_fill
  refine L2.walk_of (l := PySem.Challenge.rw_wholeconic_k07_matrices) (n := 63) (k := 15) (x := "script") (CX := fun _ => L2.CX0) (sp := fun w => Wc.spLaw _) rfl (by decide) rfl ⟨rfl, by decide, by decide⟩ (fun w h Y => PySem.W.kIn_of Y) ?F (fun _ _ a ns hl _ hS => ⟨a, ns, rfl, hS, hl, fun _ => rfl⟩) (fun _ _ _ _ _ h => h)
  case F =>
    intro w mg fa h KX G hmg
    refine' Wc.all_mk KX G hmg ?a0 ?l0 ?c0 ?k0 ?a1 ?l1 ?c1 ?k1 ?a2 ?l2 ?c2 ?k2 ?a3 ?l3 ?c3 ?k3 ?a4 ?l4 ?c4 ?k4 ?a5 ?l5 ?c5 ?k5 ?a6 ?l6 ?c6 ?k6 ?a7 ?l7 ?c7 ?k7 ?a8 ?l8 ?c8 ?k8 ?a9 ?l9 ?c9 ?k9 ?a10 ?l10 ?c10 ?k10 ?a11 ?l11 ?c11 ?k11 ?a12 ?l12 ?c12 ?k12 ?a13 ?l13 ?c13 ?k13 ?a14 ?l14 ?c14 ?k14 ?a15 ?l15 ?c15 ?k15 ?z0 ?z1 ?z2 ?z3 ?z4 ?w0 ?x0 ?y0 ?v0
    (case a0 => k_is); (case l0 => k_is); (case c0 => k_is); (case k0 => k_is); (case a1 => k_is); (case l1 => k_is); (case c1 => k_is); (case k1 => k_is); (case a2 => k_is); (case l2 => k_is); (case c2 => k_is); (case k2 => k_is); (case a3 => k_is); (case l3 => k_is); (case c3 => k_is); (case k3 => k_is); (case a4 => k_is); (case l4 => k_is); (case c4 => k_is); (case k4 => k_is); (case a5 => k_is); (case l5 => k_is); (case c5 => k_is); (case k5 => k_is); (case a6 => k_is); (case l6 => k_is); (case c6 => k_is); (case k6 => k_is); (case a7 => k_is); (case l7 => k_is); (case c7 => k_is); (case k7 => k_is); (case a8 => k_is); (case l8 => k_is); (case c8 => k_is); (case k8 => k_is); (case a9 => k_is); (case l9 => k_is); (case c9 => k_is); (case k9 => k_is); (case a10 => k_is); (case l10 => k_is); (case c10 => k_is); (case k10 => k_is); (case a11 => k_is); (case l11 => k_is); (case c11 => k_is); (case k11 => k_is); (case a12 => k_is); (case l12 => k_is); (case c12 => k_is); (case k12 => k_is); (case a13 => k_is); (case l13 => k_is); (case c13 => k_is); (case k13 => k_is); (case a14 => k_is); (case l14 => k_is); (case c14 => k_is); (case k14 => k_is); (case a15 => k_is); (case l15 => k_is); (case c15 => k_is); (case k15 => k_is); (case z0 => k_is); (case z1 => k_is); (case z2 => k_is); (case z3 => k_is); (case z4 => k_is); (case w0 => k_is); (case x0 => k_is); (case y0 => exact (by decide)); (case v0 => (repeat (first | exact .nil | refine .cons ⟨_, rfl⟩ ?_)))
