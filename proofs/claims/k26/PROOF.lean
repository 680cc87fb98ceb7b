import PyProof.Rows.All
import Wide.All
import OpenK.AllK
import Wide.FinOn
import HandS.ForMost
import HandS.Wide
import HandS.Gcd
import HandS.Style
import HandS.IsInst
import HandS.Codes
import HandS.NoneIn
import HandS.Deep
import HandS.SortInts
import HandS.Strs
import HandS.SetFor
import Flt.RightSqrt
import PySem.Challenge.RW_wholeconic_k26_integer_roots
set_option Elab.async false
set_option linter.all false
set_option maxRecDepth 100000
set_option maxHeartbeats 4000000
namespace Wc
open PySem PySem.Spec PyProof.Rows L2
/-! ### the text -/
def topS (i : Nat) : Stmt := PySem.Challenge.pw_wholeconic_k26_integer_roots.main.body.getD i (.Pass ⟨0, 0, 0, 0⟩)
abbrev sFloorRoot : Stmt := topS 2
theorem scFloorRoot : FnScope ["n"] ["n"] (defScope sFloorRoot) := ⟨rfl, rfl, rfl, by decide +kernel, rfl, by decide +kernel, by decide +kernel⟩
abbrev sIsSquare : Stmt := topS 3
theorem scIsSquare : FnScope ["n", "root"] ["n"] (defScope sIsSquare) := ⟨rfl, rfl, rfl, by decide +kernel, rfl, by decide +kernel, by decide +kernel⟩
abbrev sQuadraticRoots : Stmt := topS 5
theorem scQuadraticRoots : FnScope ["a", "b", "c", "d", "root", "tops", "top"] ["a", "b", "c"] (defScope sQuadraticRoots) := ⟨rfl, rfl, rfl, by decide +kernel, rfl, by decide +kernel, by decide +kernel⟩
abbrev sValueAt : Stmt := topS 6
theorem scValueAt : FnScope ["row", "n", "r", "s", "t"] ["row", "n"] (defScope sValueAt) := ⟨rfl, rfl, rfl, by decide +kernel, rfl, by decide +kernel, by decide +kernel⟩
abbrev sLawCell : Stmt := topS 8
theorem scLawCell : FnScope ["script", "k"] ["script", "k"] (defScope sLawCell) := ⟨rfl, rfl, rfl, by decide +kernel, rfl, by decide +kernel, by decide +kernel⟩
abbrev sLawNumbers : Stmt := topS 9
theorem scLawNumbers : FnScope ["cell", "many", "rest", "span", "numbers", "k", "mixed"] ["cell", "many"] (defScope sLawNumbers) := ⟨rfl, rfl, rfl, by decide +kernel, rfl, by decide +kernel, by decide +kernel⟩
abbrev sLawState : Stmt := topS 10
theorem scLawState : FnScope ["script", "numbers", "k"] ["script"] (defScope sLawState) := ⟨rfl, rfl, rfl, by decide +kernel, rfl, by decide +kernel, by decide +kernel⟩
abbrev sLawNext : Stmt := topS 11
theorem scLawNext : FnScope ["state", "many", "number"] ["state", "many"] (defScope sLawNext) := ⟨rfl, rfl, rfl, by decide +kernel, rfl, by decide +kernel, by decide +kernel⟩
abbrev sLawWide : Stmt := topS 12
theorem scLawWide : FnScope ["state", "many", "total", "k"] ["state", "many"] (defScope sLawWide) := ⟨rfl, rfl, rfl, by decide +kernel, rfl, by decide +kernel, by decide +kernel⟩
abbrev sLaw : Stmt := topS 13
theorem scLaw : FnScope ["script", "state", "g", "r", "s", "h", "a", "b", "c", "due", "n", "far", "other", "t"] ["script"] (defScope sLaw) := ⟨rfl, rfl, rfl, by decide +kernel, rfl, by decide +kernel, by decide +kernel⟩
structure Txt (K : PySem.W.Frag) (mg : Str → Option Value) (fa : Nat → Addr) (fd : Nat → FuncData) : Prop where
  F_floor_root : Fun K "floor_root" "floor_root" sFloorRoot (fa 0) (fd 0)
  B_floor_root : Binds K (fd 0) ["n"] []
  G_floor_root : mg "floor_root" = some (.ref (fa 0))
  F_is_square : Fun K "is_square" "is_square" sIsSquare (fa 1) (fd 1)
  B_is_square : Binds K (fd 1) ["n"] []
  G_is_square : mg "is_square" = some (.ref (fa 1))
  F_quadratic_roots : Fun K "quadratic_roots" "quadratic_roots" sQuadraticRoots (fa 2) (fd 2)
  B_quadratic_roots : Binds K (fd 2) ["a", "b", "c"] []
  G_quadratic_roots : mg "quadratic_roots" = some (.ref (fa 2))
  F_value_at : Fun K "value_at" "value_at" sValueAt (fa 3) (fd 3)
  B_value_at : Binds K (fd 3) ["row", "n"] []
  G_value_at : mg "value_at" = some (.ref (fa 3))
  F__law_cell : Fun K "_law_cell" "_law_cell" sLawCell (fa 4) (fd 4)
  B__law_cell : Binds K (fd 4) ["script", "k"] []
  G__law_cell : mg "_law_cell" = some (.ref (fa 4))
  F__law_numbers : Fun K "_law_numbers" "_law_numbers" sLawNumbers (fa 5) (fd 5)
  B__law_numbers : Binds K (fd 5) ["cell", "many"] []
  G__law_numbers : mg "_law_numbers" = some (.ref (fa 5))
  F__law_state : Fun K "_law_state" "_law_state" sLawState (fa 6) (fd 6)
  B__law_state : Binds K (fd 6) ["script"] []
  G__law_state : mg "_law_state" = some (.ref (fa 6))
  F__law_next : Fun K "_law_next" "_law_next" sLawNext (fa 7) (fd 7)
  B__law_next : Binds K (fd 7) ["state", "many"] []
  G__law_next : mg "_law_next" = some (.ref (fa 7))
  F__law_wide : Fun K "_law_wide" "_law_wide" sLawWide (fa 8) (fd 8)
  B__law_wide : Binds K (fd 8) ["state", "many"] []
  G__law_wide : mg "_law_wide" = some (.ref (fa 8))
  F_law : Fun K "law" "law" sLaw (fa 9) (fd 9)
  B_law : Binds K (fd 9) ["script"] []
  G_law : mg "law" = some (.ref (fa 9))
  m_abs : mg "abs" = none
  m_int : mg "int" = none
  m_len : mg "len" = none
  m_range : mg "range" = none
  m_set : mg "set" = none
  m_sorted : mg "sorted" = none
  g_isqrt : mg "isqrt" = some (.builtin "math.isqrt")

/-! ### heaps, draws -/
theorem same_upd {H : Hp} {p : Addr} {o : HO} (h : H p = none) : Same H (upd H p o) := fun b x e => by
  rw [upd_ne (ne_of_none e h)]
  exact e
theorem same_mut {H0 H : Hp} {p : Addr} {o : HO} (s : Same H0 H) (h : H0 p = none) : Same H0 (upd H p o) := fun b x e => by
  rw [upd_ne (ne_of_none e h)]
  exact s _ _ e
theorem same_off {H H' : Hp} {p : Addr} {o : HO} {q : Addr} (f : ∀ b, b ≠ p → H' b = H b) (n : q ≠ p) (h : H q = some o) : H' q = some o := by
  rw [f q n]
  exact h
/-- the state of the draws: the list at p, its numbers at a, at most N draws so far -/
def Dw (H : Hp) (p a : Addr) (N : Nat) : Prop := ∃ (m : Nat) (ns : List Int), m ≤ N ∧ a ≠ p ∧ H p = some (.lst [.ref a, .int (m : Int)]) ∧ H a = some (.lst (ns.map V.int)) ∧ ns.length = 120 ∧ ∀ n ∈ ns, 0 ≤ n ∧ n < 1000
theorem Dw.same {H H' : Hp} {p a : Addr} {N : Nat} (s : Same H H') (d : Dw H p a N) : Dw H' p a N := by
  obtain ⟨m, ns, h1, h2, h3, h4, h5⟩ := d
  exact ⟨m, ns, h1, h2, s _ _ h3, s _ _ h4, h5⟩
theorem Dw.mono {H : Hp} {p a : Addr} {N M : Nat} (d : Dw H p a N) (h : N ≤ M) : Dw H p a M := by
  obtain ⟨m, ns, h1, h2⟩ := d
  exact ⟨m, ns, Nat.le_trans h1 h, h2⟩
theorem Dw.new {H : Hp} {p a q : Addr} {o : HO} {N : Nat} (d : Dw H p a N) (h : H q = none) : Dw (upd H q o) p a N := d.same (same_upd h)
theorem Dw.ne {H : Hp} {p a q : Addr} {N : Nat} (d : Dw H p a N) (h : H q = none) : q ≠ p ∧ q ≠ a := by
  obtain ⟨m, ns, h1, h2, h3, h4, h5⟩ := d
  exact ⟨(ne_of_none h3 h).symm, (ne_of_none h4 h).symm⟩
theorem Dw.mut {H : Hp} {p a q : Addr} {o : HO} {N : Nat} (d : Dw H p a N) (hp : q ≠ p) (ha : q ≠ a) : Dw (upd H q o) p a N := by
  obtain ⟨m, ns, h1, h2, h3, h4, h5⟩ := d
  exact ⟨m, ns, h1, h2, by rw [upd_ne hp.symm]; exact h3, by rw [upd_ne ha.symm]; exact h4, h5⟩
theorem at_mem {α : Type} {xs : List α} {r : Int} (h0 : 0 ≤ r) (h1 : r < xs.length) : ∃ v, v ∈ xs ∧ atI xs r = some v := by
  obtain ⟨j, rfl⟩ := Int.eq_ofNat_of_zero_le h0
  have hj : j < xs.length := by omega
  exact ⟨xs[j], List.getElem_mem hj, atI_nat (List.getElem?_eq_getElem hj)⟩
theorem at_int {ns : List Int} {r : Int} (h0 : 0 ≤ r) (h1 : r < ns.length) : ∃ n ∈ ns, atI (ns.map V.int) r = some (.int n) := by
  obtain ⟨v, hv, e⟩ := at_mem (xs := ns.map V.int) h0 (by rw [List.length_map]; exact h1)
  obtain ⟨n, hn, rfl⟩ := List.mem_map.mp hv
  exact ⟨n, hn, e⟩
theorem pow_ok {i j : Int} (h : 0 ≤ j ∧ j ≤ 1000000 ∧ i.natAbs < 2 ^ 64) : CPow i j := h
theorem wayF {c A B : Prop} [Decidable c] (h : ¬ c) (b : B) : if decide c = true then A else B := by
  rw [if_neg (fun z => h (of_decide_eq_true z))]
  exact b
theorem wayT {c A B : Prop} [Decidable c] (h : c) (a : A) : if decide c = true then A else B := by
  rw [if_pos (decide_eq_true h)]
  exact a
theorem wayNF {c A B : Prop} [Decidable c] (h : c) (b : B) : if (!decide c) = true then A else B := by
  rw [decide_eq_true h]
  exact iteF b
theorem wayNT {c A B : Prop} [Decidable c] (h : ¬ c) (a : A) : if (!decide c) = true then A else B := by
  rw [decide_eq_false h]
  exact iteT a
theorem way2 {c A B : Prop} [Decidable c] (h1 : c → A) (h2 : ¬ c → B) : if decide c = true then A else B := by
  by_cases h : c
  · exact wayT h (h1 h)
  · exact wayF h (h2 h)
theorem wayN2 {c A B : Prop} [Decidable c] (h1 : ¬ c → A) (h2 : c → B) : if (!decide c) = true then A else B := by
  by_cases h : c
  · exact wayNF h (h2 h)
  · exact wayNT h (h1 h)
theorem abs_int (i : Int) : (if i < 0 then -i else i) = (i.natAbs : Int) := by
  split <;> omega
theorem small200 {n : Nat} (h : n ≤ 1000) : n ≤ sizeLine := Nat.le_of_lt (small1000 h)
/-! ### data: == of lists and tuples -/
theorem dp_ints {K : PySem.W.Frag} {H : Hp} : ∀ ns : List Int, DpAll K H (ns.map V.int) (ns.map PyData.int)
  | [] => .nil
  | n :: ns => .cons (.int n) (dp_ints ns)
theorem lay_ints : ∀ ns : List Int, PyData.canLayAll0 (ns.map PyData.int) = true
  | [] => rfl
  | n :: ns => by
    rw [List.map_cons, PyData.canLayAll0, lay_ints ns]
    rfl
theorem depth_ints : ∀ ns : List Int, PyData.depthAll (ns.map PyData.int) = 0
  | [] => rfl
  | n :: ns => by
    rw [List.map_cons, PyData.depthAll, depth_ints ns]
    rfl
theorem shaped_ints (ns : List Int) : SeqAt.shaped (.list (ns.map PyData.int)) = true := by
  show (PyData.canLay0 (.list (ns.map PyData.int)) && decide (PyData.depth (.list (ns.map PyData.int)) ≤ 64)) = true
  rw [Bool.and_eq_true]
  refine ⟨by rw [PyData.canLay0]; exact lay_ints ns, decide_eq_true ?_⟩
  rw [PyData.depth, depth_ints]
  decide
theorem shaped_intsT (ns : List Int) : SeqAt.shaped (.tuple (ns.map PyData.int)) = true := by
  show (PyData.canLay0 (.tuple (ns.map PyData.int)) && decide (PyData.depth (.tuple (ns.map PyData.int)) ≤ 64)) = true
  rw [Bool.and_eq_true]
  refine ⟨by rw [PyData.canLay0]; exact lay_ints ns, decide_eq_true ?_⟩
  rw [PyData.depth, depth_ints]
  decide
theorem eqD_same {K : PySem.W.Frag} {H : Hp} {x y : V} {Q : VK} {d : PyData} (hx : Dp K H x d) (hy : Dp K H y d) (sh : SeqAt.shaped d = true) (q : Q (.bl true) H) : rEqD K x y H Q :=
  ⟨d, d, hx, hy, sh, sh, by rw [SeqAt.eqv_refl d (SeqAt.canLay_of_shaped sh)]; exact q⟩
theorem neD_same {K : PySem.W.Frag} {H : Hp} {x y : V} {Q : VK} {d : PyData} (hx : Dp K H x d) (hy : Dp K H y d) (sh : SeqAt.shaped d = true) (q : Q (.bl false) H) : rNeD K x y H Q :=
  ⟨d, d, hx, hy, sh, sh, by rw [SeqAt.eqv_refl d (SeqAt.canLay_of_shaped sh)]; exact q⟩
/-! ### slices -/
theorem cut_to (ns : List Int) (k : Nat) : cutV (ns.map V.int) none (some (k : Int)) = (ns.take k).map V.int := by
  unfold cutV
  rw [HT.sIx_none, HT.sIx_nat, List.drop_zero, List.map_take, Nat.sub_zero, List.length_map]
  by_cases h : k ≤ ns.length
  · rw [Nat.min_eq_left h]
  · rw [Nat.min_eq_right (by omega), List.take_of_length_le (by rw [List.length_map]; omega), List.take_of_length_le (by rw [List.length_map]; omega)]
theorem cut_from (xs : List V) (k : Nat) : cutV xs (some (k : Int)) none = xs.drop k := by
  unfold cutV
  rw [HT.sIx_none, HT.sIx_nat]
  by_cases h : k ≤ xs.length
  · rw [Nat.min_eq_left h, List.take_of_length_le (by rw [List.length_drop]; omega)]
  · rw [Nat.min_eq_right (by omega), List.drop_of_length_le (by omega), List.drop_of_length_le (by omega)]
    exact List.take_nil
theorem isiF {K : PySem.W.Frag} {H : Hp} {i : Int} {Q : VK} (q : Q (.bl false) H) : rIsi K [.int i, .ty "bool"] H Q := ⟨_, _, _, _, false, rfl, ClsV.ty _, TyX.base (.int i), kit_ty (by decide +kernel), q⟩
theorem isiT {K : PySem.W.Frag} {H : Hp} {b : Bool} {Q : VK} (q : Q (.bl true) H) : rIsi K [.bl b, .ty "bool"] H Q := ⟨_, _, _, _, true, rfl, ClsV.ty _, TyX.base (.bl b), kit_ty (by decide +kernel), q⟩
theorem isiTup {K : PySem.W.Frag} {H : Hp} {a : Addr} {xs : List V} {Q : VK} (h : H a = some (.tup xs)) (q : Q (.bl true) H) : rIsi K [.ref a, .ty "tuple"] H Q := ⟨_, _, _, _, true, rfl, ClsV.ty _, TyX.base (.tup h), kit_ty (by decide +kernel), q⟩
theorem isiLst {K : PySem.W.Frag} {H : Hp} {a : Addr} {xs : List V} {Q : VK} (h : H a = some (.lst xs)) (q : Q (.bl true) H) : rIsi K [.ref a, .ty "list"] H Q := ⟨_, _, _, _, true, rfl, ClsV.ty _, TyX.base (.lst h), kit_ty (by decide +kernel), q⟩
/-! ### rules with the written part named -/
section
variable {X : Cx}
def rLenQ (K : PySem.W.Frag) : List V → Hp → VK → Prop := fun xs H Q => ∃ p ys, xs = [.ref p] ∧ (SqL K H p ys ∨ SqT K H p ys) ∧ Q (.int ys.length) H
def rListQ (K : PySem.W.Frag) : List V → Hp → VK → Prop := fun xs H Q => ∃ p ys, xs = [.ref p] ∧ (SqL K H p ys ∨ SqT K H p ys) ∧ ∀ l, H l = none → Q (.ref l) (upd H l (.lst ys))
def rTupQ (K : PySem.W.Frag) : List V → Hp → VK → Prop := fun xs H Q => ∃ p ys, xs = [.ref p] ∧ ((SqL K H p ys ∧ ∀ l, H l = none → Q (.ref l) (upd H l (.tup ys))) ∨ (SqT K H p ys ∧ Q (.ref p) H))
theorem ixL (K : PySem.W.Frag) (h : X.K = K := by rfl) : IxR X (rIxL K) := by subst h; exact ix_list
theorem ixT (K : PySem.W.Frag) (h : X.K = K := by rfl) : IxR X (rIxT K) := by subst h; exact ix_tup
theorem slL (K : PySem.W.Frag) (h : X.K = K := by rfl) : SlR X (rSlL K) := by subst h; exact sl_list
theorem slT (K : PySem.W.Frag) (h : X.K = K := by rfl) : SlR X (rSlT K) := by subst h; exact sl_tup
theorem lenQ (K : PySem.W.Frag) (h : X.K = K := by rfl) : CallR X (.builtin "len") (rLenQ K) := by subst h; exact call_len_seq
theorem listQ (K : PySem.W.Frag) (h : X.K = K := by rfl) : CallR X (.type "list") (rListQ K) := by subst h; exact call_list_of
theorem tupQ (K : PySem.W.Frag) (h : X.K = K := by rfl) : CallR X (.type "tuple") (rTupQ K) := by subst h; exact call_tuple_of
theorem isiQ (K : PySem.W.Frag) (h : X.K = K := by rfl) : CallR X (.builtin "isinstance") (rIsi K) := by subst h; exact call_isi
theorem eqDQ (K : PySem.W.Frag) (hu : X.A.units + 64 < cLine) (h : X.K = K := by rfl) : OpR X (compareOp .Eq) (rEqD K) := by subst h; exact op_eqD hu
theorem neDQ (K : PySem.W.Frag) (hu : X.A.units + 64 < cLine) (h : X.K = K := by rfl) : OpR X (compareOp .NotEq) (rNeD K) := by subst h; exact op_neD hu
theorem piL (K : PySem.W.Frag) {tg l : Expr} {tl : TE} (hl : PE X l tl) (h : X.K = K := by rfl) : PI X tg l (iList K tl) := by subst h; exact pi_list hl
theorem piT (K : PySem.W.Frag) {tg l : Expr} {tl : TE} (hl : PE X l tl) (h : X.K = K := by rfl) : PI X tg l (iTup K tl) := by subst h; exact pi_tup hl
theorem inQ (K : PySem.W.Frag) (h : X.K = K := by rfl) : OpR X (compareOp .In) (rIn K false) := by subst h; exact op_in_seq
theorem notInQ (K : PySem.W.Frag) (h : X.K = K := by rfl) : OpR X (compareOp .NotIn) (rIn K true) := by subst h; exact op_notIn_seq
end
/-! ### great numbers -/
section
variable {X : Cx}
/-- // by any divisor below 2 ^ 9000 -/
def CDivX (_ j : Int) : Prop := j ≠ 0 ∧ j.natAbs < 2 ^ 9000
theorem op_fdivX : OpR X (binaryOp .FloorDiv) (rI CDivX fun i j => .int (i.fdiv j)) := opI fun i j _ _ _ _ _ hc q =>
  floordiv_int hc.1 q (.inl (PyProof.noPylong_of_log2 (PySem.Flt.log2_lt_of (by decide) hc.2)))
end
theorem pow_up {n a b : Nat} (h : n < 2 ^ a) (hab : a ≤ b) : n < 2 ^ b := Nat.lt_of_lt_of_le h (Nat.pow_le_pow_right (by decide) hab)

/-! ### bounds by powers of two -/
def Bd (n : Nat) (x : Int) : Prop := x.natAbs < 2 ^ n
theorem Bd.mono {n m : Nat} {x : Int} (h : Bd n x) (l : n ≤ m) : Bd m x := Nat.lt_of_lt_of_le h (Nat.pow_le_pow_right (by decide) l)
theorem Bd.mul {n m : Nat} {x y : Int} (h1 : Bd n x) (h2 : Bd m y) : Bd (n + m) (x * y) := wide_lt h1 h2
theorem Bd.add {n m : Nat} {x y : Int} (h1 : Bd n x) (h2 : Bd m y) : Bd (max n m + 1) (x + y) := by
  have a1 := h1.mono (Nat.le_max_left n m)
  have a2 := h2.mono (Nat.le_max_right n m)
  unfold Bd at *
  rw [Nat.pow_succ]
  omega
theorem Bd.neg {n : Nat} {x : Int} (h : Bd n x) : Bd n (-x) := by
  unfold Bd at *
  rw [Int.natAbs_neg]
  exact h
theorem Bd.sub {n m : Nat} {x y : Int} (h1 : Bd n x) (h2 : Bd m y) : Bd (max n m + 1) (x - y) := by
  have h := h1.add h2.neg
  rw [← Int.sub_eq_add_neg] at h
  exact h
theorem Bd.l8 {x : Int} (h : (x.natAbs < 2 ^ 8) = True) : Bd 8 x := of_eq_true h
theorem Bd.lit {x : Int} (h : (x.natAbs < 2 ^ 64) = True) : Bd 64 x := of_eq_true h
theorem Bd.om {x : Int} (h : x.natAbs < 1152921504606846976) : Bd 60 x := h
theorem Bd.fdiv {n : Nat} {x y : Int} (h : Bd n x) : Bd n (x.fdiv y) := by
  unfold Bd at *
  exact Nat.lt_of_le_of_lt (Int.natAbs_fdiv_le_natAbs x y) h
theorem Bd.mod {n : Nat} {x y : Int} (h : Bd n y) (hy : y ≠ 0) : Bd n (x % y) := by
  unfold Bd at *
  have h0 := Int.emod_nonneg x hy
  have h1 := Int.emod_lt x hy
  omega
theorem Bd.abs {n : Nat} {x : Int} (h : Bd n x) : Bd n (x.natAbs : Int) := by
  unfold Bd at *
  rw [Int.natAbs_natCast]
  exact h
theorem Bd.div {n : Nat} {x y : Int} (h : Bd n x) : Bd n (x / y) := by
  unfold Bd at *
  exact Nat.lt_of_le_of_lt (Int.natAbs_ediv_le_natAbs x y) h
theorem bdm {n m : Nat} {x : Int} (h : Bd n x) (l : Nat.ble n m = true) : Bd m x := h.mono (Nat.le_of_ble_eq_true l)
theorem Bd.of {n : Nat} {x : Int} {m : Nat} (h : x.natAbs ≤ m) (l : m < 2 ^ n) : Bd n x := Nat.lt_of_le_of_lt h l
theorem Bd.mulW {n m : Nat} {x y : Int} (h1 : Bd n x) (h2 : Bd m y) (l : n + m ≤ 900000) : CMulW x y :=
  wide_mul (a := n + 1) (b := m + 1) (h1.mono (Nat.le_succ n)) (h2.mono (Nat.le_succ m)) (Nat.succ_pos n) (Nat.succ_pos m) (by omega)
theorem Bd.x4 {n m : Nat} {x y : Int} (h1 : Bd n x) (l : n ≤ m) (h : y = x) : Bd m y := h ▸ h1.mono l
/-! ### heaps -/
theorem same_seqT {K : PySem.W.Frag} {H H' : Hp} {a : Addr} {xs : List V} (e : Same H H') (h : SqT K H a xs) : SqT K H' a xs := by
  rcases h with (h | ⟨o, h⟩) | h
  · exact .inl (.inl (e _ _ h))
  · exact .inl (.inr ⟨o, e _ _ h⟩)
  · exact .inr h
/-- tuples stay -/
def KT (K : PySem.W.Frag) (H H' : Hp) : Prop := ∀ a xs, SqT K H a xs → SqT K H' a xs
/-- all but p stays -/
def Frm (p : Addr) (H H' : Hp) : Prop := ∀ b, b ≠ p → H' b = H b
/-- all that was tracked, but p, stays -/
def Kp (p : Addr) (H H' : Hp) : Prop := ∀ b o, b ≠ p → H b = some o → H' b = some o
theorem same_kt {K : PySem.W.Frag} {H H' : Hp} (e : Same H H') : KT K H H' := fun _ _ h => same_seqT e h
theorem same_kp {p : Addr} {H H' : Hp} (e : Same H H') : Kp p H H' := fun b o _ h => e b o h
theorem frm_kp {p : Addr} {H H' : Hp} (f : Frm p H H') : Kp p H H' := fun b o n h => (f b n).trans h
theorem Kp.refl {p : Addr} {H : Hp} : Kp p H H := fun b o _ h => h
theorem Kp.trans {p : Addr} {H H1 H2 : Hp} (a : Kp p H H1) (b : Kp p H1 H2) : Kp p H H2 := fun c o n h => b c o n (a c o n h)
theorem KT.trans {K : PySem.W.Frag} {H H1 H2 : Hp} (a : KT K H H1) (b : KT K H1 H2) : KT K H H2 := fun c xs h => b c xs (a c xs h)
theorem KT.refl {K : PySem.W.Frag} {H : Hp} : KT K H H := fun _ _ h => h
theorem kpB {p : Addr} {H H1 H' : Hp} (e : Kp p H1 H') (s : Kp p H H1) : Kp p H H' := s.trans e
theorem sameB {H H1 H' : Hp} (e : Same H1 H') (s : Same H H1) : Same H H' := s.trans e
theorem same_at {H H' : Hp} {a : Addr} {o : HO} (e : Same H H') (h : H a = some o) : H' a = some o := e _ _ h
theorem kp_at {p : Addr} {H H' : Hp} {a : Addr} {o : HO} (e : Kp p H H') (n : a ≠ p) (h : H a = some o) : H' a = some o := e _ _ n h
theorem KT.use {K : PySem.W.Frag} {H H' : Hp} {a : Addr} {xs : List V} (e : KT K H H') (h : SqT K H a xs) : SqT K H' a xs := e a xs h
theorem Kp.kt {K : PySem.W.Frag} {H H' : Hp} {p a : Addr} {N : Nat} (f : Kp p H H') (d : Dw H p a N) : KT K H H' := fun c xs h => by
  obtain ⟨m, ns, h1, h2, h3, h4⟩ := d
  rcases h with (h | ⟨o, h⟩) | h
  · refine .inl (.inl (f c _ ?_ h))
    rintro rfl
    rw [h3] at h
    cases h
  · refine .inl (.inr ⟨o, f c _ ?_ h⟩)
    rintro rfl
    rw [h3] at h
    cases h
  · exact .inr h
theorem kp_seqT {K : PySem.W.Frag} {H H' : Hp} {p a b : Addr} {N : Nat} {xs : List V} (f : Kp p H H') (d : Dw H p a N) (h : SqT K H b xs) : SqT K H' b xs := f.kt d b xs h
theorem Kp.seqL {K : PySem.W.Frag} {p : Addr} {H H' : Hp} {a : Addr} {xs : List V} (f : Kp p H H') (n : a ≠ p) (h : SqL K H a xs) : SqL K H' a xs := by
  rcases h with (h | ⟨o, h⟩) | h
  · exact .inl (.inl (f _ _ n h))
  · exact .inl (.inr ⟨o, f _ _ n h⟩)
  · exact .inr h
theorem Dw.kp0 {H : Hp} {p a q : Addr} {o : HO} (h : H q = none) : Kp p H (upd H q o) := same_kp (same_upd h)
theorem fresh_ne {H : Hp} {o p a : Addr} {N : Nat} (h : H o = none) (d : Dw H p a N) : o ≠ p := (d.ne h).1
section
variable {X : Cx}
def rAbs (_ : PySem.W.Frag) : List V → Hp → VK → Prop := fun xs H Q => ∃ i : Int, xs = [.int i] ∧ Q (.int (i.natAbs : Int)) H
def rInt (_ : PySem.W.Frag) : List V → Hp → VK → Prop := fun xs H Q => (∃ i : Int, xs = [.int i] ∧ Q (.int i) H) ∨ ∃ k : Bool, xs = [.bl k] ∧ Q (.int (if k then 1 else 0)) H
theorem absQ (K : PySem.W.Frag) : CallR X (.builtin "abs") (rAbs K) := by
  intro pins s σ H xs us Q I r h
  obtain ⟨i, e, q⟩ := h
  exact call_abs pins s σ H xs us Q I r ⟨i, e, by rw [abs_int]; exact q⟩
theorem intQ (K : PySem.W.Frag) : CallR X (.type "int") (rInt K) := call_int1
theorem minQ (K : PySem.W.Frag) (hc : X.calm = true := by rfl) (h : X.K = K := by rfl) : CallR X (.builtin "min") (rMin K) := by
  subst h
  exact cr_min hc
theorem pgT (K : PySem.W.Frag) (n : Nat) {es : List Expr} {k : Nat} {pos : Pos} {t : TGs} (hc : X.calm = true) (h : PGs X es t) (hn : (assignEach es X.env).length = n := by rfl) (hst : (assignEach es X.env).findIdx? (·.1) = none := by rfl) (hK : X.K = K := by rfl) : PG X (.Tuple es k pos) (gTup K n t) := by
  subst hK
  exact pg_tup hc h hn hst
end
namespace R
section
variable {K : PySem.W.Frag} {σ : L2.St} {H : Hp} {Q : VK} {ta tb te : TE} {v x y : V} {i j : Int}
theorem var {n : Nat} (h : σ[n]? = some (some v)) (q : Q v H) : tVar n σ H Q := ⟨v, h, q⟩
theorem con (q : Q v H) : tC v σ H Q := q
theorem op {r : R2} (h : ta σ H fun x H1 => tb σ H1 fun y H2 => r x y H2 Q) : tOp r ta tb σ H Q := h
theorem un {r : V → Hp → VK → Prop} (h : ta σ H fun x H1 => r x H1 Q) : tUn r ta σ H Q := h
theorem i0 {g : Int → Int → V} (q : Q (g i j) H) : rI0 g (.int i) (.int j) H Q := ⟨i, j, rfl, rfl, q⟩
theorem i2 {C : Int → Int → Prop} {g : Int → Int → V} (c : C i j) (q : Q (g i j) H) : rI C g (.int i) (.int j) H Q := ⟨i, j, rfl, rfl, c, q⟩
theorem u1 {g : Int → V} (q : Q (g i) H) : rU g (.int i) H Q := ⟨i, rfl, q⟩
theorem ixT {p : Addr} {xs : List V} (h : SqT K H p xs) (e : atI xs i = some v) (q : Q v H) : rIxT K (.ref p) (.int i) H Q := ⟨p, xs, i, v, rfl, rfl, h, e, q⟩
theorem ixL {p : Addr} {xs : List V} (h : SqL K H p xs) (e : atI xs i = some v) (q : Q v H) : rIxL K (.ref p) (.int i) H Q := ⟨p, xs, i, v, rfl, rfl, h, e, q⟩
theorem nil {Q : List V → Hp → Prop} (q : Q [] H) : tNil σ H Q := q
theorem cons {tr : TA} {Q : List V → Hp → Prop} (h : ta σ H fun x H1 => tr σ H1 fun xs H2 => Q (x :: xs) H2) : tCons ta tr σ H Q := h
/-- what is wanted of a new tuple, a new list -/
def NwT (H : Hp) (xs : List V) (Q : VK) : Prop := xs.length ≤ sizeLine ∧ ∀ p, H p = none → Q (.ref p) (upd H p (.tup xs))
def NwL (H : Hp) (xs : List V) (Q : VK) : Prop := xs.length ≤ sizeLine ∧ ∀ p, H p = none → Q (.ref p) (upd H p (.lst xs))
def Nw (H : Hp) (xs : List V) (Q : VK) : Prop := ∀ H' t, Same H H' → H' t = some (.tup xs) → Q (.ref t) H'
theorem nw {xs : List V} (h : ∀ H' t, Same H H' → H' t = some (.tup xs) → Q (.ref t) H') : Nw H xs Q := h
def Mt (H : Hp) (xs : List V) (Q : VK) : Prop := ∀ H' p, Same H H' → H p = none → H' p = some (.tup xs) → Q (.ref p) H'
def Ml (H : Hp) (xs : List V) (Q : VK) : Prop := ∀ H' p, Same H H' → H p = none → H' p = some (.lst xs) → Q (.ref p) H'
theorem mt {xs : List V} (h : ∀ H' p, Same H H' → H p = none → H' p = some (.tup xs) → Q (.ref p) H') : Mt H xs Q := h
theorem ml {xs : List V} (h : ∀ H' p, Same H H' → H p = none → H' p = some (.lst xs) → Q (.ref p) H') : Ml H xs Q := h
theorem tup {t : TA} (h : t σ H fun xs H1 => NwT H1 xs Q) : tTup t σ H Q := h
theorem lst {t : TA} (h : t σ H fun xs H1 => NwL H1 xs Q) : tLst t σ H Q := h
theorem nwT {xs : List V} (l : Nat.ble xs.length 1000 = true) (q : Mt H xs Q) : NwT H xs Q :=
  ⟨Nat.le_of_lt (small1000 (Nat.le_of_ble_eq_true l)), fun p n => q _ p (same_upd n) n upd_same⟩
theorem nwL {xs : List V} (l : Nat.ble xs.length 1000 = true) (q : Ml H xs Q) : NwL H xs Q :=
  ⟨Nat.le_of_lt (small1000 (Nat.le_of_ble_eq_true l)), fun p n => q _ p (same_upd n) n upd_same⟩
theorem call {sp : Sp} {dvs : List V} {E : XK} {t : TA} (h : t σ H fun vs H1 => sp (vs ++ dvs) H1 Q E) : tCall sp dvs E t σ H Q := h
theorem callB {r : List V → Hp → VK → Prop} {t : TA} (h : t σ H fun vs H1 => r vs H1 Q) : tCB r t σ H Q := h
theorem gname {n : Nat} {Q : L2.St → Hp → Prop} (h : Q (σ.set n (some v)) H) : gName n v σ H Q := h
theorem gtup {n : Nat} {t : TGs} {a : Addr} {xs : List V} {Q : L2.St → Hp → Prop} (h1 : SqT K H a xs) (h2 : xs.length = n) (h : t xs σ H Q) : gTup K n t (.ref a) σ H Q := ⟨a, xs, rfl, h1, h2, h⟩
theorem gcons {t : TG} {u : TGs} {r : List V} {Q : L2.St → Hp → Prop} (h : t v σ H fun σ' H' => u r σ' H' Q) : gCons t u (v :: r) σ H Q := ⟨v, r, rfl, h⟩
theorem gnil {Q : L2.St → Hp → Prop} (h : Q σ H) : gNil [] σ H Q := ⟨rfl, h⟩
variable {nx : L2.St → Hp → Prop} {rt : VK} {bk ct : L2.St → Hp → Prop} {t u : TS} {c : TT}
theorem seq (h : t (Ends.mk (u (Ends.mk nx rt bk ct)) rt bk ct) σ H) : tSeq t u (Ends.mk nx rt bk ct) σ H := h
theorem asg {g : TG} (h : te σ H fun x H1 => g x σ H1 nx) : tAsg te g (Ends.mk nx rt bk ct) σ H := h
theorem brk (h : bk σ H) : tBreak (Ends.mk nx rt bk ct) σ H := h
theorem cont (h : ct σ H) : tCont (Ends.mk nx rt bk ct) σ H := h
theorem ret (h : te σ H rt) : tRet te (Ends.mk nx rt bk ct) σ H := h
theorem next (h : nx σ H) : tNext (Ends.mk nx rt bk ct) σ H := h
theorem drop (h : te σ H fun _ H1 => nx σ H1) : tDrop te (Ends.mk nx rt bk ct) σ H := h
theorem par {i j : Nat} {ta : TA} (h : ta σ H fun vs H1 => ∃ v w, vs = [v, w] ∧ nx ((σ.set i (some v)).set j (some w)) H1) : tPar i j ta (Ends.mk nx rt bk ct) σ H := h
theorem par2 {P : V → V → Prop} (h : P x y) : ∃ v w, [x, y] = [v, w] ∧ P v w := ⟨x, y, rfl, h⟩
theorem ifs (h : c σ H fun b H1 => if b = true then t (Ends.mk nx rt bk ct) σ H1 else u (Ends.mk nx rt bk ct) σ H1) : tIfS c t u (Ends.mk nx rt bk ct) σ H := h
theorem tif (h : c σ H fun b H1 => if b = true then ta σ H1 Q else tb σ H1 Q) : tIf c ta tb σ H Q := h
theorem test {Q : Bool → Hp → Prop} (h : te σ H fun x H' => ∃ k, x = .bl k ∧ Q k H') : tTest te σ H Q := h
theorem tb' {Q : Bool → Hp → Prop} (h : te σ H fun x H' => ∃ k, x = .bl k ∧ Q k H') : tB te σ H Q := h
theorem isbl {b : Bool} {P : Bool → Prop} (h : P b) : ∃ k, V.bl b = .bl k ∧ P k := ⟨b, rfl, h⟩
theorem cmp {p : Int → Int → Bool} (h : t2I ta tb (fun i j H2 => Q (.bl (p i j)) H2) σ H) : tCmp p ta tb σ H Q := h
theorem t2i {k : Int → Int → Hp → Prop} (h : ta σ H fun x H1 => tb σ H1 fun y H2 => ∃ i j, x = .int i ∧ y = .int j ∧ k i j H2) : t2I ta tb k σ H := h
theorem intp {k : Int → Int → Prop} (h : k i j) : ∃ a b : Int, V.int i = .int a ∧ V.int j = .int b ∧ k a b := ⟨i, j, rfl, rfl, h⟩
theorem cut {Mid : L2.St → Hp → Prop} (h1 : t (Ends.mk Mid rt bk ct) σ H) (h2 : ∀ σ' H', Mid σ' H' → u (Ends.mk nx rt bk ct) σ' H') : C8.tCut t u (Ends.mk nx rt bk ct) σ H := ⟨Mid, h1, h2⟩
variable {d : TT}
theorem and {Q : Bool → Hp → Prop} (h : c σ H fun k H1 => if k = true then d σ H1 Q else Q false H1) : tAnd c d σ H Q := h
theorem or {Q : Bool → Hp → Prop} (h : c σ H fun k H1 => if k = true then Q true H1 else d σ H1 Q) : tOr c d σ H Q := h
theorem not {Q : Bool → Hp → Prop} (h : c σ H fun k H1 => Q (!k) H1) : tNot c σ H Q := h
theorem andV (h : ta σ H fun x H1 => ∃ c, x = .bl c ∧ if c = true then tb σ H1 Q else Q (.bl false) H1) : tAndV ta tb σ H Q := h
theorem orV (h : ta σ H fun x H1 => ∃ c, x = .bl c ∧ if c = true then Q (.bl true) H1 else tb σ H1 Q) : tOrV ta tb σ H Q := h
theorem notV (h : ta σ H fun x H1 => ∃ c, x = .bl c ∧ Q (.bl (!c)) H1) : tNotV ta σ H Q := h
theorem chain {r r' : R2} {tc : TE} (h : ta σ H fun x H1 => tb σ H1 fun y H2 => r x y H2 fun z H3 => ∃ k, z = .bl k ∧ (if k = true then tc σ H3 fun w' H4 => r' y w' H4 Q else Q (.bl false) H3)) : tChain r r' ta tb tc σ H Q := h
theorem tupL {p : Addr} {ys : List V} (h : SqL K H p ys) (q : Mt H ys Q) : rTupQ K [.ref p] H Q := ⟨p, ys, rfl, .inl ⟨h, fun l n => q _ l (same_upd n) n upd_same⟩⟩
theorem lstL {p : Addr} {ys : List V} (h : SqL K H p ys) (q : Ml H ys Q) : rListQ K [.ref p] H Q := ⟨p, ys, rfl, .inl h, fun l n => q _ l (same_upd n) n upd_same⟩
theorem cat {l b : Addr} {xs zs : List V} (h1 : H l = some (.lst xs)) (h2 : H b = some (.lst zs)) (z : Nat.ble (xs.length + zs.length) 1000 = true) (q : Ml H (xs ++ zs) Q) : rCat (.ref l) (.ref b) H Q :=
  ⟨l, b, xs, zs, rfl, rfl, h1, h2, Nat.le_of_lt (small1000 (Nat.le_of_ble_eq_true z)), fun p n => q _ p (same_upd n) n upd_same⟩
theorem sl {r : V → Option Int → Option Int → Hp → VK → Prop} {tl th : TO} (h : te σ H fun x H1 => tl σ H1 fun l H2 => th σ H2 fun u H3 => r x l u H3 Q) : tSl r te tl th σ H Q := h
theorem noPart {Q : Option Int → Hp → Prop} (h : Q none H) : tNoPart σ H Q := h
theorem part {Q : Option Int → Hp → Prop} (h : te σ H fun x H1 => ∃ i, x = .int i ∧ Q (some i) H1) : tPart te σ H Q := h
theorem isInt {P : Int → Prop} (h : P i) : ∃ k, V.int i = .int k ∧ P k := ⟨i, rfl, h⟩
theorem slL {a : Addr} {xs : List V} {lo hi : Option Int} (h : SqL K H a xs) (q : Ml H (cutV xs lo hi) Q) : rSlL K (.ref a) lo hi H Q := ⟨a, xs, rfl, h, fun p n => q _ p (same_upd n) n upd_same⟩
theorem absI (q : Q (.int (i.natAbs : Int)) H) : rAbs K [.int i] H Q := ⟨i, rfl, q⟩
theorem intI (q : Q (.int i) H) : rInt K [.int i] H Q := .inl ⟨i, rfl, q⟩
theorem intB {b : Bool} (q : Q (.int (if b then 1 else 0)) H) : rInt K [.bl b] H Q := .inr ⟨b, rfl, q⟩
theorem lenT {p : Addr} {ys : List V} (h : SqT K H p ys) (q : Q (.int (ys.length : Int)) H) : rLenQ K [.ref p] H Q := ⟨p, ys, rfl, .inr h, q⟩
theorem lenL {p : Addr} {ys : List V} (h : SqL K H p ys) (q : Q (.int (ys.length : Int)) H) : rLenQ K [.ref p] H Q := ⟨p, ys, rfl, .inl h, q⟩
theorem eqS {a b : Str} (q : Q (.bl (decide (V.str a = V.str b))) H) : rEq (.str a) (.str b) H Q := ⟨rfl, q⟩
theorem eqBl {a b : Bool} (q : Q (.bl (decide (V.bl a = V.bl b))) H) : rEq (.bl a) (.bl b) H Q := ⟨rfl, q⟩
theorem neBl {a b : Bool} (q : Q (.bl (!decide (V.bl a = V.bl b))) H) : rNe (.bl a) (.bl b) H Q := ⟨rfl, q⟩
theorem isiTupS {a : Addr} {xs : List V} (h : SqT K H a xs) (q : Q (.bl true) H) : rIsi K [.ref a, .ty "tuple"] H Q := by
  rcases h with (h | ⟨o, h⟩) | ⟨o, its, n, h1, h2, _⟩
  · exact Wc.isiTup h q
  · exact ⟨_, _, _, _, true, rfl, ClsV.ty _, TyX.fTuple h, kit_ty (by decide +kernel), q⟩
  · exact ⟨_, _, _, _, true, rfl, ClsV.ty _, TyX.kTuple h1 h2, kit_ty (by decide +kernel), q⟩
theorem slT {a : Addr} {xs : List V} {lo hi : Option Int} (h : SqT K H a xs) (n : ¬ (HT.sIx xs.length 0 lo = 0 ∧ HT.sIx xs.length xs.length hi = xs.length)) (q : Mt H (cutV xs lo hi) Q) : rSlT K (.ref a) lo hi H Q := ⟨a, xs, rfl, h, n, fun p nn => q _ p (same_upd nn) nn upd_same⟩
theorem isiT {b : Bool} (q : Q (.bl true) H) : rIsi K [.bl b, .ty "bool"] H Q := Wc.isiT q
theorem isiTup {a : Addr} {xs : List V} (h : H a = some (.tup xs)) (q : Q (.bl true) H) : rIsi K [.ref a, .ty "tuple"] H Q := Wc.isiTup h q
theorem isiLst {a : Addr} {xs : List V} (h : H a = some (.lst xs)) (q : Q (.bl true) H) : rIsi K [.ref a, .ty "list"] H Q := Wc.isiLst h q
/-! == of tuples of ints -/
theorem eqB {ns ms : List Int} : PyData.eqv (.tuple (ns.map PyData.int)) (.tuple (ms.map PyData.int)) = decide (ns = ms) := by
  have h : ∀ ns ms : List Int, PyData.eqvAll (ns.map PyData.int) (ms.map PyData.int) = decide (ns = ms) := by
    intro ns
    induction ns with
    | nil => intro ms; cases ms <;> simp [PyData.eqvAll]
    | cons n ns ih => intro ms; cases ms with
      | nil => simp [PyData.eqvAll]
      | cons m ms =>
        rw [List.map_cons, List.map_cons, PyData.eqvAll, ih]
        by_cases h : n = m
        · simp [PyData.eqv, h]
        · simp [PyData.eqv, h]
  rw [PyData.eqv]
  exact h ns ms
theorem eqTs {p q : Addr} {ns ms : List Int} {b : Bool} (h1 : SqT K H p (ns.map V.int)) (h2 : SqT K H q (ms.map V.int)) (hb : b = decide (ns = ms)) (h : Q (.bl b) H) : rEqD K (.ref p) (.ref q) H Q :=
  ⟨_, _, .tup h1 (dp_ints ns), .tup h2 (dp_ints ms), shaped_intsT ns, shaped_intsT ms, by rw [eqB, ← hb]; exact h⟩
theorem neTs {p q : Addr} {ns ms : List Int} {b : Bool} (h1 : SqT K H p (ns.map V.int)) (h2 : SqT K H q (ms.map V.int)) (hb : b = decide (ns = ms)) (h : Q (.bl (!b)) H) : rNeD K (.ref p) (.ref q) H Q :=
  ⟨_, _, .tup h1 (dp_ints ns), .tup h2 (dp_ints ms), shaped_intsT ns, shaped_intsT ms, by rw [eqB, ← hb]; exact h⟩
variable {p q : Addr} {a b c d a' b' c' d' : Int}
theorem eq2 (h1 : SqT K H p [.int a, .int b]) (h2 : SqT K H q [.int a', .int b']) (h : Q (.bl (decide (a = a' ∧ b = b'))) H) : rEqD K (.ref p) (.ref q) H Q :=
  eqTs (ns := [a, b]) (ms := [a', b']) h1 h2 (by simp) h
theorem ne2 (h1 : SqT K H p [.int a, .int b]) (h2 : SqT K H q [.int a', .int b']) (h : Q (.bl (!decide (a = a' ∧ b = b'))) H) : rNeD K (.ref p) (.ref q) H Q :=
  neTs (ns := [a, b]) (ms := [a', b']) h1 h2 (by simp) h
theorem eq3 (h1 : SqT K H p [.int a, .int b, .int c]) (h2 : SqT K H q [.int a', .int b', .int c']) (h : Q (.bl (decide (a = a' ∧ b = b' ∧ c = c'))) H) : rEqD K (.ref p) (.ref q) H Q :=
  eqTs (ns := [a, b, c]) (ms := [a', b', c']) h1 h2 (by simp) h
theorem ne3 (h1 : SqT K H p [.int a, .int b, .int c]) (h2 : SqT K H q [.int a', .int b', .int c']) (h : Q (.bl (!decide (a = a' ∧ b = b' ∧ c = c'))) H) : rNeD K (.ref p) (.ref q) H Q :=
  neTs (ns := [a, b, c]) (ms := [a', b', c']) h1 h2 (by simp) h
theorem eq4 (h1 : SqT K H p [.int a, .int b, .int c, .int d]) (h2 : SqT K H q [.int a', .int b', .int c', .int d']) (h : Q (.bl (decide (a = a' ∧ b = b' ∧ c = c' ∧ d = d'))) H) : rEqD K (.ref p) (.ref q) H Q :=
  eqTs (ns := [a, b, c, d]) (ms := [a', b', c', d']) h1 h2 (by simp) h
theorem ne4 (h1 : SqT K H p [.int a, .int b, .int c, .int d]) (h2 : SqT K H q [.int a', .int b', .int c', .int d']) (h : Q (.bl (!decide (a = a' ∧ b = b' ∧ c = c' ∧ d = d'))) H) : rNeD K (.ref p) (.ref q) H Q :=
  neTs (ns := [a, b, c, d]) (ms := [a', b', c', d']) h1 h2 (by simp) h
/-! loops over ranges, comprehensions -/
def ForJ (J : It) (g : TG) (tb : TS) (D : Ends) (σ : L2.St) (H1 : Hp) : Prop := tFor (fun _ Hs R => R J Hs) g tb D σ H1
theorem forE {wi : TI} {g : TG} {tb : TS} {D : Ends} (h : wi σ H fun J H1 => ForJ J g tb D σ H1) : tFor wi g tb D σ H := h
def RgOne (vs : List V) (P : Int → Prop) : Prop := ∃ j : Int, vs = [.int j] ∧ -(2 ^ 62) ≤ j ∧ j < 2 ^ 62 ∧ P j
def RgTwo (vs : List V) (P : Int → Int → Prop) : Prop := ∃ i j : Int, vs = [.int i, .int j] ∧ (-(2 ^ 62) ≤ i ∧ i < 2 ^ 62 ∧ -(2 ^ 62) ≤ j ∧ j < 2 ^ 62) ∧ P i j
theorem rng1 {ta : TA} {R : It → Hp → Prop} (h : ta σ H fun vs H1 => RgOne vs fun j => R (Itr 0 j.toNat) H1) : iRng1 ta σ H R := h
theorem rng2 {ta : TA} {R : It → Hp → Prop} (h : ta σ H fun vs H1 => RgTwo vs fun i j => R (Itr i (j - i).toNat) H1) : iRng2 ta σ H R := h
theorem rg1 {P : Int → Prop} {j : Int} (h1 : -(2 ^ 62) ≤ j) (h2 : j < 2 ^ 62) (h : P j) : RgOne [.int j] P := ⟨j, rfl, h1, h2, h⟩
theorem rg2 {P : Int → Int → Prop} {i j : Int} (h1 : -(2 ^ 62) ≤ i) (h2 : i < 2 ^ 62) (h3 : -(2 ^ 62) ≤ j) (h4 : j < 2 ^ 62) (h : P i j) : RgTwo [.int i, .int j] P := ⟨i, j, rfl, ⟨h1, h2, h3, h4⟩, h⟩
theorem forN {lo : Int} {n : Nat} {g : TG} {tb : TS} {D : Ends} (Pv : Nat → L2.St → Hp → Prop) (h0 : Pv 0 σ H)
    (hs : ∀ i σ H, i < n → Pv i σ H → g (.int (lo + i)) σ H fun σ2 H2 => tb (Ends.mk (Pv (i + 1)) D.rt D.nx (Pv (i + 1))) σ2 H2) (hd : ∀ σ H, Pv n σ H → D.nx σ H) : ForJ (Itr lo n) g tb D σ H := for_range Pv h0 hs hd
def RefOne (v : V) (P : Addr → Prop) : Prop := ∃ a, v = .ref a ∧ P a
theorem itup {tl : TE} {R : It → Hp → Prop} (h : tl σ H fun x H1 => ∃ a, x = .ref a ∧ (∃ xs, SqT K H1 a xs) ∧ R (Itt K a) H1) : iTup K tl σ H R := h
theorem ilst {tl : TE} {R : It → Hp → Prop} (h : tl σ H fun x H1 => ∃ a, x = .ref a ∧ (∃ xs, SqL K H1 a xs) ∧ R (Itl K a) H1) : iList K tl σ H R := h
theorem refs {p : Addr} {xs : List V} {S : Addr → List V → Prop} {R : Addr → Prop} (h1 : S p xs) (h : R p) : ∃ a, V.ref p = .ref a ∧ (∃ ys, S a ys) ∧ R a := ⟨p, rfl, ⟨xs, h1⟩, h⟩
def LcJ (J : It) (g : TG) (tt : TT) (te : TE) (vs : List Nat) (σ : L2.St) (H1 : Hp) (Q : VK) : Prop := tLc (fun _ Hs R => R J Hs) g tt te vs σ H1 Q
theorem lcE {wi : TI} {g : TG} {tt : TT} {vs : List Nat} (h : wi σ H fun J H1 => LcJ J g tt te vs σ H1 Q) : tLc wi g tt te vs σ H Q := h
/-- [int for k in range(n)], each of them by c draws -/
theorem lcI {p a : Addr} {N c n : Nat} {lo : Int} {g : TG} {vs : List Nat} (P : Int → Prop) (hn : n ≤ 900) (d : Dw H p a N)
    (hs : ∀ i H' (Q' : VK), i < n → Dw H' p a (N + c * i) → Kp p H H' → (∀ x H4, P x → Dw H4 p a (N + c * i + c) → Kp p H' H4 → Q' (.int x) H4) → g (.int (lo + i)) (wipe σ vs) H' fun σ2 H2 => wipe σ2 vs = wipe σ vs ∧ te σ2 H2 Q')
    (hq : ∀ H' D (xs : List Int), H' D = some (.lst (xs.map V.int)) → xs.length = n → (∀ x ∈ xs, P x) → Dw H' p a (N + c * n) → Kp p H H' → H D = none → D ≠ p → Q (.ref D) H') : LcJ (Itr lo n) g tYes te vs σ H Q := by
  intro D nD
  have Dp := (d.ne nD).1
  have Da := (d.ne nD).2
  refine lc_range (lo := lo) (n := n) (fun i H' => ∃ xs : List Int, H' D = some (.lst (xs.map V.int)) ∧ xs.length = i ∧ (∀ x ∈ xs, P x) ∧ Dw H' p a (N + c * i) ∧ Kp p H H')
    ⟨[], upd_same, rfl, (fun x h => nomatch h), (d.new nD).mono (by omega), same_kp (same_upd nD)⟩ (fun i H5 hi ⟨xs, h1, h2, h3, h4, h5⟩ => ?_) (fun H5 ⟨xs, h1, h2, h3, h4, h5⟩ => hq H5 D xs h1 h2 h3 h4 h5 nD Dp)
  refine hs i H5 _ hi h4 h5 (fun x H4 px d4 k4 => ⟨_, k4 _ _ Dp h1, ?_, xs ++ [x], ?_, ?_, ?_, ?_, ?_⟩)
  · rw [List.length_map]
    exact small1000 (by omega)
  · rw [upd_same, List.map_append]
    rfl
  · rw [List.length_append, h2]
    rfl
  · intro z hz
    rcases List.mem_append.mp hz with hz | hz
    · exact h3 z hz
    · rw [List.mem_singleton.mp hz]
      exact px
  · have e : N + c * (i + 1) = N + c * i + c := by rw [Nat.mul_add, Nat.mul_one, Nat.add_assoc]
    rw [e]
    exact d4.mut Dp Da
  · intro b o hb e
    have e2 := k4 _ _ hb (h5 _ _ hb e)
    rw [upd_ne (ne_of_none e nD)]
    exact e2
/-- [f(x) for x in a tuple (a list) of ints] -/
theorem lcT {a : Addr} {ns : List Int} {g : TG} {vs : List Nat} (f : Int → Int) (hl : ns.length ≤ 900) (hT : SqT K H a (ns.map V.int))
    (hs : ∀ n H' (Q' : VK), n ∈ ns → Same H H' → Q' (.int (f n)) H' → g (.int n) (wipe σ vs) H' fun σ2 H2 => wipe σ2 vs = wipe σ vs ∧ te σ2 H2 Q')
    (hq : ∀ H' D, H' D = some (.lst ((ns.map f).map V.int)) → Same H H' → H D = none → Q (.ref D) H') : LcJ (Itt K a) g tYes te vs σ H Q := by
  intro D nD
  refine lc_tup (K := K) (a := a) (xs := ns.map V.int) (fun i H' => H' D = some (.lst (((ns.take i).map f).map V.int)) ∧ Same H H') ⟨upd_same, same_upd nD⟩ (fun i H' _ h => same_seqT h.2 hT) (fun i x H5 hx ⟨h1, h5⟩ => ?_) (fun H5 ⟨h1, h5⟩ => ?_)
  · rw [List.getElem?_map] at hx
    cases hn : ns[i]? with
    | none =>
      rw [hn] at hx
      cases hx
    | some n =>
      rw [hn] at hx
      cases hx
      refine hs n H5 _ (List.mem_of_getElem? hn) h5 ⟨_, h1, ?_, ?_, ?_⟩
      · rw [List.length_map, List.length_map, List.length_take]
        exact small1000 (by omega)
      · rw [upd_same, List.take_add_one, hn, List.map_append, List.map_append]
        rfl
      · exact same_mut h5 nD
  · rw [List.length_map, List.take_length] at h1
    exact hq H5 D h1 h5 nD
end
theorem isEq {α : Sort _} {a b : α} (h : a = b) : a = b := h
theorem bm {σ : L2.St} {H : Hp} {Q : VK} {T : String} {r : V → List V → Hp → VK → Prop} {to : TE} {t : TA} {K : PySem.W.Frag} (h : to σ H fun x H1 => tyV K T x H1 ∧ t σ H1 fun xs H2 => r x xs H2 Q) : tBM K T r to t σ H Q := h
theorem bmT {H : Hp} {K : PySem.W.Frag} {p : Addr} {xs : List V} {B : Prop} (h1 : H p = some (.lst xs)) (h2 : B) : tyV K "list" (.ref p) H ∧ B := ⟨.inl ⟨rfl, _, SqL.of h1⟩, h2⟩
theorem app {H : Hp} {Q : VK} {l : Addr} {xs : List V} {y : V} (h : H l = some (.lst xs)) (z : xs.length ≤ 100000) (q : ∀ H', H' = upd H l (.lst (xs ++ [y])) → H' l = some (.lst (xs ++ [y])) → Q .non H') : rAppend (.ref l) [y] H Q :=
  ⟨l, xs, y, rfl, rfl, h, Nat.lt_of_le_of_lt z (by decide), q _ rfl upd_same⟩
theorem dput {σ : L2.St} {H : Hp} {td ty tv : TE} {nx : L2.St → Hp → Prop} {rt : VK} {bk ct : L2.St → Hp → Prop} (h : tv σ H fun v H1 => td σ H1 fun x H2 => ty σ H2 fun y H3 => ∃ a H4, x = .ref a ∧ DPut H3 a y v H4 ∧ nx σ H4) : sDPut td ty tv (Ends.mk nx rt bk ct) σ H := h
theorem dget {σ : L2.St} {H : Hp} {Q : VK} {td ty : TE} (h : td σ H fun x H1 => ty σ H1 fun y H2 => ∃ a v, x = .ref a ∧ DGet H2 a y (some v) ∧ Q v H2) : tDGet td ty σ H Q := h
theorem din {σ : L2.St} {H : Hp} {Q : VK} {td ty : TE} (h : ty σ H fun y H1 => td σ H1 fun x H2 => ∃ a o, x = .ref a ∧ DGet H2 a y o ∧ Q (.bl o.isSome) H2) : tDIn ty td σ H Q := h
theorem dget2 {σ : L2.St} {H : Hp} {Q : VK} {td ty tx : TE} (h : td σ H fun x H1 => ∃ a, x = .ref a ∧ IsD H1 a ∧ ty σ H1 fun y H2 => tx σ H2 fun z H3 => ∃ o, DGet H3 a y o ∧ Q (o.getD z) H3) : tDGet2 td ty tx σ H Q := h
/-! slots behind many stores -/
def LenOk (n : Nat) (σ : L2.St) : Prop := n < σ.length
theorem lenS {n m : Nat} {σ : L2.St} {x : Option V} (h : LenOk n σ) : LenOk n (σ.set m x) := by
  unfold LenOk at *
  rw [List.length_set]
  exact h
theorem lenB {n : Nat} {σ : L2.St} (h : Nat.ble (n + 1) σ.length = true) : LenOk n σ := Nat.le_of_ble_eq_true h
theorem gsE {n : Nat} {σ : L2.St} {x r : Option V} (h : LenOk n σ) (e : some x = some r) : (σ.set n x)[n]? = some r := by
  rw [List.getElem?_set_self h]
  exact e
theorem gsN {n m : Nat} {σ : L2.St} {x : Option V} {r : Option (Option V)} (h : Nat.beq m n = false) (e : σ[n]? = r) : (σ.set m x)[n]? = r := by
  rw [List.getElem?_set_ne (fun z => by rw [z, Nat.beq_refl] at h; cases h)]
  exact e
theorem isLeI {a b : Int} (h : a ≤ b) : a ≤ b := h
theorem cdiv {i j : Int} (h : decide (0 < j ∧ j < 1073741824) = true) : CDiv i j := of_decide_eq_true (p := 0 < j ∧ j < 1073741824) h
theorem cpow {i j : Int} (h : decide (0 ≤ j ∧ j ≤ 1000000 ∧ i.natAbs < 2 ^ 64) = true) : CPow i j := of_decide_eq_true (p := 0 ≤ j ∧ j ≤ 1000000 ∧ i.natAbs < 2 ^ 64) h
theorem notT {A B : Prop} (h : B) : if (!true) = true then A else B := h
theorem notF {A B : Prop} (h : A) : if (!false) = true then A else B := h
theorem isNe {α : Sort _} {a b : α} (h : a ≠ b) : a ≠ b := h
theorem cdivX {n : Nat} {i j : Int} (h1 : j ≠ 0) (h2 : Bd n j) (l : Nat.ble n 9000 = true) : CDivX i j := ⟨h1, Nat.lt_of_lt_of_le h2 (Nat.pow_le_pow_right (by decide) (Nat.le_of_ble_eq_true l))⟩
theorem isLe {a b : Nat} (h : a ≤ b) : a ≤ b := h
theorem isLtI {a b : Int} (h : a < b) : a < b := h
theorem isLt {a b : Nat} (h : a < b) : a < b := h
end R
/-! unpacking of a list -/
theorem pgU {X : Cx} (K : PySem.W.Frag) (n : Nat) {es : List Expr} {k : Nat} {pos : Pos} {t : TGs} (hc : X.calm = true) (h : PGs X es t) (hn : (assignEach es X.env).length = n := by rfl) (hst : (assignEach es X.env).findIdx? (·.1) = none := by rfl) (hK : X.K = K := by rfl) : PG X (.Tuple es k pos) (gUnl K n t) := by
  subst hK
  exact pg_unl hc h hn hst
theorem r_gunl {K : PySem.W.Frag} {σ : L2.St} {H : Hp} {n : Nat} {t : TGs} {a : Addr} {xs : List V} {Q : L2.St → Hp → Prop} (h1 : SqL K H a xs) (h2 : xs.length = n) (h : t xs σ H Q) : gUnl K n t (.ref a) σ H Q := ⟨a, xs, rfl, h1, h2, h⟩

/-! ### lists of tuples of ints -/
def tD (t : List Int) : PyData := .tuple (t.map PyData.int)
inductive Tps (K : PySem.W.Frag) (H : Hp) : List V → List (List Int) → Prop where
  | nil : Tps K H [] []
  | cons {a : Addr} {t : List Int} {vs : List V} {ts : List (List Int)} : SqT K H a (t.map V.int) → Tps K H vs ts → Tps K H (.ref a :: vs) (t :: ts)
theorem Tps.kt {K : PySem.W.Frag} {H H' : Hp} (s : KT K H H') : ∀ {vs : List V} {ts : List (List Int)}, Tps K H vs ts → Tps K H' vs ts
  | _, _, .nil => .nil
  | _, _, .cons h t => .cons (s _ _ h) (t.kt s)
theorem Tps.same {K : PySem.W.Frag} {H H' : Hp} {vs : List V} {ts : List (List Int)} (h : Tps K H vs ts) (s : Same H H') : Tps K H' vs ts := h.kt (same_kt s)
theorem Tps.len {K : PySem.W.Frag} {H : Hp} : ∀ {vs : List V} {ts : List (List Int)}, Tps K H vs ts → vs.length = ts.length
  | _, _, .nil => rfl
  | _, _, .cons _ t => by rw [List.length_cons, List.length_cons, t.len]
theorem Tps.app {K : PySem.W.Frag} {H : Hp} : ∀ {vs ws : List V} {ts us : List (List Int)}, Tps K H vs ts → Tps K H ws us → Tps K H (vs ++ ws) (ts ++ us)
  | _, _, _, _, .nil, h => h
  | _, _, _, _, .cons a t, h => .cons a (t.app h)
theorem Tps.snoc {K : PySem.W.Frag} {H : Hp} {vs : List V} {ts : List (List Int)} {a : Addr} {t : List Int} (h : Tps K H vs ts) (s : SqT K H a (t.map V.int)) : Tps K H (vs ++ [.ref a]) (ts ++ [t]) := h.app (.cons s .nil)
theorem Tps.at {K : PySem.W.Frag} {H : Hp} : ∀ {vs : List V} {ts : List (List Int)} {i : Nat} {x : V}, Tps K H vs ts → vs[i]? = some x → ∃ a t, x = .ref a ∧ ts[i]? = some t ∧ SqT K H a (t.map V.int)
  | _, _, _, _, .nil, h => by cases h
  | _, _, 0, _, .cons s t, h => by
    cases h
    exact ⟨_, _, rfl, rfl, s⟩
  | _, _, i + 1, _, .cons s t, h => t.at (i := i) h
theorem Tps.dp {K : PySem.W.Frag} {H : Hp} : ∀ {vs : List V} {ts : List (List Int)}, Tps K H vs ts → DpAll K H vs (ts.map tD)
  | _, _, .nil => .nil
  | _, _, .cons h t => .cons (.tup h (dp_ints _)) t.dp
theorem lay_tups : ∀ ts : List (List Int), PyData.canLayAll0 (ts.map tD) = true
  | [] => rfl
  | t :: ts => by
    rw [List.map_cons, PyData.canLayAll0, lay_tups ts]
    unfold tD
    rw [PyData.canLay0, lay_ints]
    rfl
theorem depth_tups : ∀ ts : List (List Int), PyData.depthAll (ts.map tD) ≤ 1
  | [] => by rw [List.map_nil, PyData.depthAll]; decide
  | t :: ts => by
    rw [List.map_cons, PyData.depthAll]
    unfold tD
    rw [PyData.depth, depth_ints]
    exact Nat.max_le.mpr ⟨by decide, depth_tups ts⟩
theorem shaped_tups (ts : List (List Int)) : SeqAt.shaped (.list (ts.map tD)) = true := by
  show (PyData.canLay0 (.list (ts.map tD)) && decide (PyData.depth (.list (ts.map tD)) ≤ 64)) = true
  rw [Bool.and_eq_true]
  refine ⟨by rw [PyData.canLay0]; exact lay_tups ts, decide_eq_true ?_⟩
  rw [PyData.depth]
  have := depth_tups ts
  omega
theorem shaped_tupsT (ts : List (List Int)) : SeqAt.shaped (.tuple (ts.map tD)) = true := by
  show (PyData.canLay0 (.tuple (ts.map tD)) && decide (PyData.depth (.tuple (ts.map tD)) ≤ 64)) = true
  rw [Bool.and_eq_true]
  refine ⟨by rw [PyData.canLay0]; exact lay_tups ts, decide_eq_true ?_⟩
  rw [PyData.depth]
  have := depth_tups ts
  omega
theorem eqvAll_tups : ∀ ts us : List (List Int), PyData.eqvAll (ts.map tD) (us.map tD) = decide (ts = us)
  | [], [] => by simp [PyData.eqvAll]
  | [], _ :: _ => by simp [PyData.eqvAll]
  | _ :: _, [] => by simp [PyData.eqvAll]
  | t :: ts, u :: us => by
    rw [List.map_cons, List.map_cons, PyData.eqvAll, eqvAll_tups ts us]
    unfold tD
    rw [R.eqB]
    by_cases h : t = u <;> simp [h]
theorem any_tups (t : List Int) : ∀ ts : List (List Int), (ts.map tD).any (fun z => PyData.eqv z (tD t)) = decide (t ∈ ts)
  | [] => by simp
  | u :: ts => by
    rw [List.map_cons, List.any_cons, any_tups t ts]
    have e : PyData.eqv (tD u) (tD t) = decide (u = t) := R.eqB
    rw [e]
    by_cases h : u = t
    · subst h
      simp
    · have h2 : ¬ t = u := fun z => h z.symm
      by_cases h3 : t ∈ ts <;> simp [h, h2, h3]
namespace R
theorem eqTps {K : PySem.W.Frag} {H : Hp} {Q : VK} {p q : Addr} {vs ws : List V} {ts us : List (List Int)} (h1 : SqL K H p vs) (t1 : Tps K H vs ts) (h2 : SqL K H q ws) (t2 : Tps K H ws us) (h : Q (.bl (decide (ts = us))) H) : rEqD K (.ref p) (.ref q) H Q := by
  refine ⟨_, _, .lst h1 t1.dp, .lst h2 t2.dp, shaped_tups _, shaped_tups _, ?_⟩
  rw [PyData.eqv, eqvAll_tups]
  exact h
theorem neTps {K : PySem.W.Frag} {H : Hp} {Q : VK} {p q : Addr} {vs ws : List V} {ts us : List (List Int)} (h1 : SqL K H p vs) (t1 : Tps K H vs ts) (h2 : SqL K H q ws) (t2 : Tps K H ws us) (h : Q (.bl (!decide (ts = us))) H) : rNeD K (.ref p) (.ref q) H Q := by
  refine ⟨_, _, .lst h1 t1.dp, .lst h2 t2.dp, shaped_tups _, shaped_tups _, ?_⟩
  rw [PyData.eqv, eqvAll_tups]
  exact h
theorem notInT {K : PySem.W.Frag} {H : Hp} {Q : VK} {p q : Addr} {vs : List V} {t : List Int} {ts : List (List Int)} (h1 : SqT K H p (t.map V.int)) (h2 : SqL K H q vs) (t2 : Tps K H vs ts) (h : Q (.bl (!decide (t ∈ ts))) H) : rNotInD K (.ref p) (.ref q) H Q := by
  refine ⟨_, _, .tup h1 (dp_ints _), .lst h2 t2.dp, shaped_intsT _, shaped_tups _, ?_⟩
  have e := any_tups t ts
  unfold tD at e
  rw [show (ts.map tD) = ts.map fun t => .tuple (t.map PyData.int) from rfl, e]
  exact h
theorem inT {K : PySem.W.Frag} {H : Hp} {Q : VK} {p q : Addr} {vs : List V} {t : List Int} {ts : List (List Int)} (h1 : SqT K H p (t.map V.int)) (h2 : SqL K H q vs) (t2 : Tps K H vs ts) (h : Q (.bl (decide (t ∈ ts))) H) : rInD K (.ref p) (.ref q) H Q := by
  refine ⟨_, _, .tup h1 (dp_ints _), .lst h2 t2.dp, shaped_intsT _, shaped_tups _, ?_⟩
  have e := any_tups t ts
  unfold tD at e
  rw [show (ts.map tD) = ts.map fun t => .tuple (t.map PyData.int) from rfl, e]
  exact h
end R
theorem room65 {k : Nat} {A : Around} (r : Room k A) : A.units + 65 < cLine := by
  have := r.un
  omega
theorem notInDQ {X : Cx} (K : PySem.W.Frag) (hu : X.A.units + 65 < cLine) (h : X.K = K := by rfl) : OpR X (compareOp .NotIn) (rNotInD K) := by
  subst h
  exact op_notInD hu
theorem inDQ {X : Cx} (K : PySem.W.Frag) (hu : X.A.units + 65 < cLine) (h : X.K = K := by rfl) : OpR X (compareOp .In) (rInD K) := by
  subst h
  exact op_inD hu

/-! ### [f x for x in .. if p x] -/
def rgI (lo : Int) (n : Nat) : List Int := (List.range n).map fun (t : Nat) => lo + (t : Int)
theorem rgI_succ (lo : Int) (n : Nat) : rgI lo (n + 1) = rgI lo n ++ [lo + (n : Int)] := by
  unfold rgI
  rw [List.range_succ, List.map_append]
  rfl
theorem rgI_len (lo : Int) (n : Nat) : (rgI lo n).length = n := by
  unfold rgI
  rw [List.length_map, List.length_range]
theorem mem_rgI {lo x : Int} {n : Nat} : x ∈ rgI lo n ↔ lo ≤ x ∧ x < lo + (n : Int) := by
  unfold rgI
  rw [List.mem_map]
  constructor
  · rintro ⟨t, ht, rfl⟩
    have := List.mem_range.mp ht
    omega
  · rintro ⟨h1, h2⟩
    exact ⟨(x - lo).toNat, List.mem_range.mpr (by omega), by omega⟩
theorem rgI_lt (lo : Int) (n : Nat) : (rgI lo n).Pairwise (· < ·) := by
  unfold rgI
  exact List.pairwise_map.mpr ((List.pairwise_lt_range (n := n)).imp fun h => by omega)
theorem lt_ext : ∀ {l m : List Int}, l.Pairwise (· < ·) → m.Pairwise (· < ·) → (∀ x, x ∈ l ↔ x ∈ m) → l = m
  | [], [], _, _, _ => rfl
  | [], b :: m, _, _, h => absurd ((h b).mpr List.mem_cons_self) (by simp)
  | a :: l, [], _, _, h => absurd ((h a).mp List.mem_cons_self) (by simp)
  | a :: l, b :: m, h1, h2, h => by
    obtain ⟨a1, a2⟩ := List.pairwise_cons.mp h1
    obtain ⟨b1, b2⟩ := List.pairwise_cons.mp h2
    have e : a = b := by
      rcases List.mem_cons.mp ((h a).mp List.mem_cons_self) with k | k
      · exact k
      · rcases List.mem_cons.mp ((h b).mpr List.mem_cons_self) with k2 | k2
        · exact k2.symm
        · have := a1 b k2
          have := b1 a k
          omega
    subst e
    rw [lt_ext a2 b2 fun x => ?_]
    constructor
    · intro hx
      rcases List.mem_cons.mp ((h x).mp (List.mem_cons_of_mem _ hx)) with k | k
      · have := a1 x hx
        omega
      · exact k
    · intro hx
      rcases List.mem_cons.mp ((h x).mpr (List.mem_cons_of_mem _ hx)) with k | k
      · have := b1 x hx
        omega
      · exact k
theorem le_nodup_lt {l : List Int} (h : l.Pairwise (· ≤ ·)) (n : l.Nodup) : l.Pairwise (· < ·) := by
  refine List.Pairwise.imp ?_ (h.and n)
  intro a b ⟨x, y⟩
  have : a ≠ b := y
  omega
namespace R
section
variable {K : PySem.W.Frag} {σ : L2.St} {H : Hp} {Q : VK} {g : TG} {tt : TT} {te : TE} {vs : List Nat}
theorem lcFR {lo : Int} {n : Nat} (p : Int → Bool) (f : Int → Int) (hn : n ≤ 100000)
    (hs : ∀ i H' (C : V → Hp → Prop) (E : Hp → Prop), i < n → Same H H' → (p (lo + i) = true → C (.int (f (lo + i))) H') → (p (lo + i) = false → E H') → g (.int (lo + i)) (wipe σ vs) H' fun σ2 H2 => wipe σ2 vs = wipe σ vs ∧ tt σ2 H2 fun k H3 => if k = true then te σ2 H3 C else E H3)
    (hq : ∀ H' D, H' D = some (.lst ((((rgI lo n).filter p).map f).map V.int)) → Same H H' → H D = none → Q (.ref D) H') : LcJ (Itr lo n) g tt te vs σ H Q := by
  intro D nD
  refine lc_range (lo := lo) (n := n) (fun i H' => H' D = some (.lst ((((rgI lo i).filter p).map f).map V.int)) ∧ Same H H') ⟨upd_same, same_upd nD⟩ (fun i H5 hi ⟨h1, h5⟩ => ?_) (fun H5 ⟨h1, h5⟩ => hq H5 D h1 h5 nD)
  refine hs i H5 _ _ hi h5 (fun e => ⟨_, h1, ?_, ?_, same_mut h5 nD⟩) (fun e => ⟨?_, h5⟩)
  · rw [List.length_map, List.length_map]
    have := List.length_filter_le p (rgI lo i)
    rw [rgI_len] at this
    exact Nat.lt_of_le_of_lt (Nat.le_trans this (by omega : i ≤ 100000)) (by decide)
  · rw [upd_same, rgI_succ, List.filter_append, List.filter_cons_of_pos (by exact e), List.map_append, List.map_append]
    rfl
  · rw [rgI_succ, List.filter_append, List.filter_cons_of_neg (by rw [e]; decide), List.filter_nil, List.append_nil]
    exact h1
theorem lcFL {a : Addr} {ns : List Int} (p : Int → Bool) (f : Int → Int) (hl : ns.length ≤ 100000) (hT : SqL K H a (ns.map V.int))
    (hs : ∀ n H' (C : V → Hp → Prop) (E : Hp → Prop), n ∈ ns → Same H H' → (p n = true → C (.int (f n)) H') → (p n = false → E H') → g (.int n) (wipe σ vs) H' fun σ2 H2 => wipe σ2 vs = wipe σ vs ∧ tt σ2 H2 fun k H3 => if k = true then te σ2 H3 C else E H3)
    (hq : ∀ H' D, H' D = some (.lst (((ns.filter p).map f).map V.int)) → Same H H' → H D = none → Q (.ref D) H') : LcJ (Itl K a) g tt te vs σ H Q := by
  intro D nD
  refine lc_list (K := K) (a := a) (xs := ns.map V.int) (fun i H' => H' D = some (.lst ((((ns.take i).filter p).map f).map V.int)) ∧ Same H H') ⟨upd_same, same_upd nD⟩ (fun i H' _ h => h.2.seq hT) (fun i x H5 hx ⟨h1, h5⟩ => ?_) (fun H5 ⟨h1, h5⟩ => ?_)
  · rw [List.getElem?_map] at hx
    cases hn : ns[i]? with
    | none =>
      rw [hn] at hx
      cases hx
    | some n =>
      rw [hn] at hx
      cases hx
      refine hs n H5 _ _ (List.mem_of_getElem? hn) h5 (fun e => ⟨_, h1, ?_, ?_, same_mut h5 nD⟩) (fun e => ⟨?_, h5⟩)
      · rw [List.length_map, List.length_map]
        have := List.length_filter_le p (ns.take i)
        rw [List.length_take] at this
        exact Nat.lt_of_le_of_lt (Nat.le_trans this (by omega : min i ns.length ≤ 100000)) (by decide)
      · rw [upd_same, List.take_add_one, hn, Option.toList_some, List.filter_append, List.filter_cons_of_pos (by exact e), List.map_append, List.map_append]
        rfl
      · rw [List.take_add_one, hn, Option.toList_some, List.filter_append, List.filter_cons_of_neg (by rw [e]; decide), List.filter_nil, List.append_nil]
        exact h1
  · rw [List.length_map, List.take_length] at h1
    exact hq H5 D h1 h5 nD
end
theorem srt {K : PySem.W.Frag} {H : Hp} {Q : VK} {a : Addr} {ns : List Int} (h : SqL K H a (ns.map V.int)) (q : ∀ (ns' : List Int) H' p, ns'.Perm ns → ns'.Pairwise (· ≤ ·) → Same H H' → H p = none → H' p = some (.lst (ns'.map V.int)) → Q (.ref p) H') : rSortedI K [.ref a] H Q :=
  ⟨a, ns, rfl, h, fun ns' p pm s n => q ns' _ p pm s (same_upd n) n upd_same⟩
theorem eqInts {K : PySem.W.Frag} {H : Hp} {Q : VK} {p q : Addr} {ns ms : List Int} (h1 : SqL K H p (ns.map V.int)) (h2 : SqL K H q (ms.map V.int)) (h : Q (.bl (decide (ns = ms))) H) : rEqD K (.ref p) (.ref q) H Q := by
  refine ⟨_, _, .lst h1 (dp_ints ns), .lst h2 (dp_ints ms), shaped_ints ns, shaped_ints ms, ?_⟩
  have e : PyData.eqv (.list (ns.map PyData.int)) (.list (ms.map PyData.int)) = decide (ns = ms) := by
    have h := eqB (ns := ns) (ms := ms)
    rw [PyData.eqv] at h
    rw [PyData.eqv]
    exact h
  rw [e]
  exact h
theorem neInts {K : PySem.W.Frag} {H : Hp} {Q : VK} {p q : Addr} {ns ms : List Int} (h1 : SqL K H p (ns.map V.int)) (h2 : SqL K H q (ms.map V.int)) (h : Q (.bl (!decide (ns = ms))) H) : rNeD K (.ref p) (.ref q) H Q := by
  refine ⟨_, _, .lst h1 (dp_ints ns), .lst h2 (dp_ints ms), shaped_ints ns, shaped_ints ms, ?_⟩
  have e : PyData.eqv (.list (ns.map PyData.int)) (.list (ms.map PyData.int)) = decide (ns = ms) := by
    have h := eqB (ns := ns) (ms := ms)
    rw [PyData.eqv] at h
    rw [PyData.eqv]
    exact h
  rw [e]
  exact h
end R
theorem srtQ {X : Cx} (K : PySem.W.Frag) (h : X.K = K := by rfl) : CallR X (.builtin "sorted") (rSortedI K) := by
  subst h
  exact cr_sortedI

/-! ### set(a list of ints) -/
section
variable {P : Program} {w : World} {A : Around} {E : Value → Shared → Prop} {s : Shared}
abbrev nwS (w : World) : Obj := { cls := .type "set", dict := none, data := .set #[] 0 (.fresh 0 0 (!w.params.followText "set-order")) }
abbrev nwH (w : World) (h : Heap) : Heap := h.push (nwS w)
set_option maxHeartbeats 4000000 in
theorem setOfInts {l : Addr} {its : Array Value} (ks : List Int) {Q : Value → Shared → Prop} (h0 : A.handled = none) (hL : s.heap.IsList l its) (hI : IntsAre its.toList ks) (hB : ks.length + 1 < scanBound)
    (kk : ∀ (h' : Heap) (tk c : Nat), SetR w h' s.heap.objs.size (fun j => decide (j ∈ ks)) c → c ≤ ks.length → (∀ b o, s.heap.get? b = some o → h'.get? b = some o) → Q (.ref s.heap.objs.size) { s with heap := h', toks := tk }) :
    wpAny (model P w) A (call (.type "set") [.ref l]) Q E s := by
  have sz : its.size = ks.length := (Array.length_toList).symm.trans (IntsAre.length hI)
  obtain ⟨c0, t0, m0⟩ := F.called_set.mro
  have m1 := F.called_set.made
  have m2 := F.called_set.sub
  refine wpAny_call (codeAny_of_tree (show wpAny _ _ (callAny (.type "set") _) _ _ _ from wpAny_pure ⟨Code.quiet_builtin _ (by decide +kernel), codeAny_builtin F.entry_type_call ?_⟩))
  rw [Around.under_plain (weight_type_call_type "set" [Value.ref l] []) rfl]
  have m3 := F.called_set.notType
  have m4 := F.called_set.canCreate
  have m5 := F.typeCall_set_1 (Value.ref l)
  repeat any_goals first | assumption | wp_step
  refine codeAny_mono (code_set_led1 (Value.ref l) (E := E) (Q₁ := fun o s₁ => o = .ref s.heap.objs.size ∧ s₁ = { s with heap := nwH w s.heap }) ⟨rfl, rfl⟩) fun r s₁ hr => ?_
  cases r with
  | error e => exact hr
  | ok fl =>
    cases fl with
    | ret o =>
      obtain ⟨rfl, rfl⟩ := hr
      have gS : (nwH w s.heap).get? s.heap.objs.size = some (nwS w) := Heap.get?_push_size _ rfl
      have tS : Shared.TypeIs { s with heap := nwH w s.heap } (.ref s.heap.objs.size) "set" := ⟨_, gS, rfl⟩
      have i1 := F.called_set.init.lookup
      have i2 := F.called_set.init.bind (Value.ref s.heap.objs.size)
      repeat any_goals first | assumption | wp_step
      refine codeAny_mono (codeAny_call_builtin (R := wants (fun r s₂ => r = .none ∧ ∃ h' tk c, s₂ = { s with heap := h', toks := tk } ∧ SetR w h' s.heap.objs.size (fun j => decide (j ∈ ks)) c ∧ c ≤ ks.length ∧ (∀ b o, s.heap.get? b = some o → h'.get? b = some o)) E) F.called_set.init.plain F.entry_set_init (check_set_init_1 tS ?_)) fun r₂ s₂ hr₂ => ?_
      · obtain ⟨ob, hob, hcl, nl, hdl⟩ := hL
        obtain ⟨oc, od, oda, osl⟩ := ob
        simp only at hcl hdl
        subst hcl
        subst hdl
        have gL : (nwH w s.heap).get? l = some { cls := .type "list", dict := od, data := .seq its nl, slots := osl } := Heap.get?_push_of_some _ hob
        have u1 := F.sub_list_set
        have u2 := F.sub_list_frozenset
        have u3 : (Value.type "list" == Value.type "dict") = false := by decide
        have L1 : (nwH w s.heap).IsList l its := ⟨_, gL, rfl, nl, rfl⟩
        unfold Builtin.«set.__init__» noKeywords Builtin.Frozenset.updateFrom
        generalize hPI : pyIter = PI
        wp_walk
        subst hPI
        refine wpAny_pyIter_list L1 (wpAny_bind (wpAny_runValue ?_))
        have lS : l < s.heap.objs.size := Heap.lt_size hob
        have h3 : A.in1.in1.in1.handled = none := by simp [h0]
        have nI : l ≠ (nwH w s.heap).objs.size := by
          rw [Heap.size_push]
          exact Nat.ne_of_lt (Nat.lt_succ_of_lt lS)
        have nf : s.heap.objs.size ∉ [(nwH w s.heap).objs.size, l] := by
          rw [Heap.size_push]
          simp only [List.mem_cons, List.not_mem_nil, or_false, not_or]
          exact ⟨Nat.ne_of_lt (Nat.lt_succ_self _), Nat.ne_of_gt lS⟩
        have hv : ∀ (i : Nat) (v : Value), its[i]? = some v → ∃ k t, ks[i]? = some k ∧ v = .int k t := fun i v e => by
          have hi : i < ks.length := by
            rw [← sz]
            exact (Array.getElem?_eq_some_iff.mp e).1
          obtain ⟨t, e2⟩ := PyProof.Rows.IntsAre.int_at hI i v (by rw [Array.getElem?_toList]; exact e)
          refine ⟨ks[i], t, List.getElem?_eq_getElem hi, e2.trans ?_⟩
          rw [List.getD_eq_getElem?_getD, List.getElem?_eq_getElem hi]
          rfl
        refine set_update_ints ((Walks.list h3 _ l nI its).toS) s.heap.objs.size nf ks sz hB hv (its.size - 0) 0 _ (by omega) (Nat.zero_le _) ⟨⟨_, Heap.get?_push_size _ rfl, rfl, rfl⟩, (L1.push _)⟩ ?start ?stop
        case start => exact ⟨0, Nat.le_refl 0, setR_new_at (Heap.get?_push_of_some _ gS)⟩
        case stop =>
          intro z c1 hm h1 h2
          obtain ⟨h', g2, d', tk', os'⟩ := z
          have q1 : g2 = s.gens := hm.gens
          have q2 : d' = s.drawn := hm.drawn
          have q3 : os' = s.os := hm.os
          subst q1
          subst q2
          subst q3
          show wpAny _ _ _ _ _ _
          refine wpAny_pure (show wpAny _ _ (ret Value.none) _ _ _ from ?_)
          rw [sz] at h1
          refine wpAny_pure ⟨rfl, h', tk', c1, rfl, h2, h1, fun b o e => ?_⟩
          have b0 : b < s.heap.objs.size := Heap.lt_size e
          have b1 : b ≠ (nwH w s.heap).objs.size := by
            rw [Heap.size_push]
            exact Nat.ne_of_lt (Nat.lt_succ_of_lt b0)
          refine hm.heap b o ?_ (Heap.get?_push_of_some _ (Heap.get?_push_of_some _ e))
          simp only [List.mem_cons, List.not_mem_nil, or_false, not_or]
          exact ⟨Nat.ne_of_lt b0, b1⟩
      · cases r₂ with
        | error e => exact hr₂
        | ok fl₂ =>
          cases fl₂ with
          | ret r =>
            obtain ⟨rfl, h', tk, c', rfl, y1, y2, y3⟩ := hr₂
            repeat any_goals first | assumption | wp_step
            exact kk _ _ _ y1 y2 y3
          | _ => exact hr₂.elim
    | _ => exact hr.elim
end
section
variable {X : Cx}
def rSetL (K : PySem.W.Frag) (w : World) : List V → Hp → VK → Prop := fun xs H Q => ∃ (p : Addr) (ks : List Int), xs = [.ref p] ∧ SqL K H p (ks.map V.int) ∧ ks.length ≤ 1000 ∧ ∀ a c, H a = none → c ≤ ks.length → Q (.ref a) (upd H a (SetO w a (fun j => decide (j ∈ ks)) c))
theorem cr_setL (hc : X.calm = true) : CallR X (.type "set") (rSetL X.K X.w) := by
  intro pins s σ H xs us Q I r h
  obtain ⟨p, ks, rfl, hl, hn, q⟩ := h
  rw [Vals.ref1 r]
  obtain ⟨its, rv, pl, hz⟩ := I.list hl
  have hf : H s.heap.objs.size = none := I.hok.fresh (Nat.le_refl _)
  refine setOfInts (P := X.prog) (w := X.w) ks (I.ok.hd hc) pl.isList (by simpa using ints_of_vals rv) (by unfold scanBound; omega) fun h' tk c R hcn k => ?_
  exact ⟨.ref s.heap.objs.size, upd H s.heap.objs.size (SetO X.w s.heap.objs.size (fun j => decide (j ∈ ks)) c), I.laid (t' := tk) k (Nat.le_refl _) (setO_new R), rfl, q _ c hf hcn⟩
theorem setLQ (K : PySem.W.Frag) (w : World) (hc : X.calm = true := by rfl) (h : X.K = K := by rfl) (hw : X.w = w := by rfl) : CallR X (.type "set") (rSetL K w) := by
  subst h
  subst hw
  exact cr_setL hc
theorem sortedSetQ (w : World) (hc : X.calm = true := by rfl) (hw : X.w = w := by rfl) : CallR X (.builtin "sorted") (rSortedSet w) := by
  subst hw
  exact cr_sortedSet hc
end

/-! ### whole roots -/
section
variable {X : Cx}
theorem cr_isqrt : CallR X (.builtin "math.isqrt") (fun vs H Q => ∃ i : Int, vs = [.int i] ∧ 0 ≤ i ∧ i.natAbs < 2 ^ 13000 ∧ Q (.int ((Float64.isqrt i.toNat : Nat) : Int)) H) := by
  intro pins s σ H vs us Q I r h
  obtain ⟨i, rfl, h0, h1, q⟩ := h
  obtain ⟨u, rfl, t, rfl⟩ := vals1 r
  have hl : i.toNat.log2 < 13000 := PySem.Flt.log2_lt_of (by decide) (by omega)
  exact call_function_meets PySem.W.MGF.kind_isqrt PySem.W.MGF.plain_isqrt PySem.W.MGF.entry_isqrt (PySem.W.MGF.args_isqrt _) (PySem.W.mg_run_isqrt i t (by omega) (by omega) (by omega)).meets ⟨.int _, H, I.tok _, ⟨_, rfl⟩, q⟩
end
def rootI (n : Int) : Int := ((Float64.isqrt n.toNat : Nat) : Int)
theorem rootI_spec {n : Int} (h : 0 ≤ n) : 0 ≤ rootI n ∧ rootI n * rootI n ≤ n ∧ n < (rootI n + 1) * (rootI n + 1) := by
  obtain ⟨k, rfl⟩ := Int.eq_ofNat_of_zero_le h
  have e := Float64.isqrt_spec k
  unfold rootI
  have e2 : Int.toNat (k : Int) = k := rfl
  rw [e2]
  generalize Float64.isqrt k = m at e ⊢
  refine ⟨Int.natCast_nonneg m, ?_, ?_⟩
  · exact_mod_cast e.1
  · exact_mod_cast e.2
theorem rootI_lt {n : Int} {b : Nat} (h : 0 ≤ n) (hb : n.natAbs < 2 ^ b) : (rootI n).natAbs < 2 ^ b := by
  obtain ⟨h0, h1, h2⟩ := rootI_spec h
  have h3 : rootI n ≤ n := by
    by_cases e : rootI n = 0
    · omega
    · have h4 : 1 * rootI n ≤ rootI n * rootI n := Int.mul_le_mul_of_nonneg_right (by omega) h0
      omega
  omega
/-! ### common measures -/
def gI (a b : Int) : Int := ((Nat.gcd a.natAbs b.natAbs : Nat) : Int)
theorem gI_nn (a b : Int) : 0 ≤ gI a b := Int.natCast_nonneg _
theorem gI_lt {a b : Int} {B : Nat} (ha : a.natAbs < B) (hb : b.natAbs < B) : (gI a b).natAbs < B := by
  unfold gI
  rw [Int.natAbs_natCast]
  by_cases h : a.natAbs = 0
  · rw [h, Nat.gcd_zero_left]
    exact hb
  · exact Nat.lt_of_le_of_lt (Nat.gcd_le_left _ (by omega)) ha
def gL (ns : List Int) : Int := ns.foldl gI 0
theorem gL_take {ns : List Int} {i : Nat} {x : Int} (h : ns[i]? = some x) : gL (ns.take (i + 1)) = gI (gL (ns.take i)) x := by
  unfold gL
  rw [List.take_add_one, h, List.foldl_append]
  rfl
/-- one step of the walk of measures: what // and the rest are -/
theorem fd_rest {g r : Int} (h : r ≠ 0) : (g - g.fdiv r * r).natAbs < r.natAbs ∧ (0 < r → 0 ≤ g - g.fdiv r * r) ∧ (r < 0 → g - g.fdiv r * r ≤ 0) := by
  have e : g - g.fdiv r * r = g.fmod r := by
    rw [Int.fmod_def, Int.mul_comm]
  rw [e]
  by_cases hr : 0 < r
  · have h1 := Int.fmod_nonneg_of_pos g hr
    have h2 := Int.fmod_lt_of_pos g hr
    refine ⟨by omega, fun _ => h1, fun _ => by omega⟩
  · have h1 := Int.fmod_nonneg_of_pos (-g) (b := -r) (by omega)
    have h2 := Int.fmod_lt_of_pos (-g) (b := -r) (by omega)
    rw [Int.neg_fmod_neg] at h1 h2
    refine ⟨by omega, fun _ => by omega, fun _ => by omega⟩
theorem gcd_step (g q r : Int) : Nat.gcd r.natAbs (g - q * r).natAbs = Nat.gcd g.natAbs r.natAbs := by
  have e1 : Int.gcd r (g - q * r) = Int.gcd r g := by
    rw [Int.sub_eq_add_neg, ← Int.neg_mul]
    exact Int.gcd_add_mul_right_right ..
  have e2 : Int.gcd r g = Int.gcd g r := Int.gcd_comm r g
  exact e1.trans e2
theorem step_lt {g rest u ru q r B : Nat} (hg : g = q * rest + r) (h : ru * g + u * rest ≤ B) : (u + q * ru) * rest + ru * r ≤ B := by
  have e : (u + q * ru) * rest + ru * r = ru * g + u * rest := by
    rw [hg, Nat.add_mul, Nat.mul_add, Nat.mul_comm q ru, Nat.mul_assoc]
    omega
  omega
/-- the state of bezout's walk -/
def Bz (a b g u v r ru rv : Int) : Prop := u * a + v * b = g ∧ ru * a + rv * b = r ∧ (((Nat.gcd g.natAbs r.natAbs : Nat) : Int) = gI a b ∧ u.natAbs ≤ a.natAbs + 2 * b.natAbs + 1 ∧ v.natAbs ≤ a.natAbs + 2 * b.natAbs + 1) ∧
  ((g = a ∧ r = b ∧ u = 1 ∧ v = 0 ∧ ru = 0 ∧ rv = 1) ∨
    (((0 ≤ g ∧ 0 ≤ r) ∨ (g ≤ 0 ∧ r ≤ 0)) ∧ g.natAbs ≤ b.natAbs ∧ r.natAbs < g.natAbs ∧
      ru.natAbs * g.natAbs + u.natAbs * r.natAbs ≤ a.natAbs + 2 * b.natAbs ∧ rv.natAbs * g.natAbs + v.natAbs * r.natAbs ≤ a.natAbs + 2 * b.natAbs))
theorem same_div {g r : Int} (h : (0 ≤ g ∧ 0 < r) ∨ (g ≤ 0 ∧ r < 0)) : g.natAbs = (g.fdiv r).natAbs * r.natAbs + (g - g.fdiv r * r).natAbs := by
  have hr : r ≠ 0 := by omega
  obtain ⟨h1, h2, h3⟩ := fd_rest (g := g) hr
  have hq : 0 ≤ g.fdiv r := by
    rcases h with ⟨a, b⟩ | ⟨a, b⟩
    · exact Int.fdiv_nonneg a (by omega)
    · rw [← Int.neg_fdiv_neg]
      exact Int.fdiv_nonneg (by omega) (by omega)
  obtain ⟨q, e⟩ := Int.eq_ofNat_of_zero_le hq
  rw [e] at h2 h3 ⊢
  rcases h with ⟨a, b⟩ | ⟨a, b⟩
  · have k := h2 b
    have z : g = (q : Int) * r + (g - (q : Int) * r) := by omega
    obtain ⟨r', rfl⟩ := Int.eq_ofNat_of_zero_le (show 0 ≤ r by omega)
    have e2 : ((q * r' : Nat) : Int) = (q : Int) * (r' : Int) := Int.natCast_mul q r'
    rw [Int.natAbs_natCast, Int.natAbs_natCast]
    rw [← e2] at k ⊢
    omega
  · have k := h3 b
    obtain ⟨r', hr'⟩ := Int.eq_ofNat_of_zero_le (show 0 ≤ -r by omega)
    have er : r = -(r' : Int) := by omega
    subst er
    have e2 : ((q * r' : Nat) : Int) = (q : Int) * (r' : Int) := Int.natCast_mul q r'
    rw [Int.mul_neg, ← e2] at k ⊢
    rw [Int.natAbs_natCast, Int.natAbs_neg, Int.natAbs_natCast]
    omega
theorem abs_sub_mul (u q ru : Int) : (u - q * ru).natAbs ≤ u.natAbs + q.natAbs * ru.natAbs := by
  rw [← Int.natAbs_mul]
  omega
theorem Bz.size {a b g u v r ru rv : Int} (h : Bz a b g u v r ru rv) (hr : r ≠ 0) : (g.fdiv r).natAbs ≤ a.natAbs + b.natAbs + 1 ∧ r.natAbs ≤ b.natAbs ∧ ru.natAbs ≤ a.natAbs + 2 * b.natAbs + 1 ∧ rv.natAbs ≤ a.natAbs + 2 * b.natAbs + 1 := by
  obtain ⟨h1, h2, h3, h4⟩ := h
  obtain ⟨k1, k2, k3⟩ := fd_rest (g := g) hr
  have z2 : (g.fdiv r).natAbs * r.natAbs ≤ g.natAbs + r.natAbs := by
    rw [← Int.natAbs_mul]
    omega
  have z3 : (g.fdiv r).natAbs ≤ g.natAbs + 1 := by
    by_cases z : (g.fdiv r).natAbs ≤ g.natAbs + 1
    · exact z
    · have z4 : (g.natAbs + 2) * r.natAbs ≤ (g.fdiv r).natAbs * r.natAbs := Nat.mul_le_mul_right _ (by omega)
      have z5 : g.natAbs * 1 ≤ g.natAbs * r.natAbs := Nat.mul_le_mul_left _ (by omega)
      rw [Nat.add_mul] at z4
      omega
  rcases h4 with ⟨e1, e2, e3, e4, e5, e6⟩ | ⟨e1, e2, e3, e4, e5⟩
  · rw [e5, e6]
    refine ⟨?_, ?_, ?_, ?_⟩ <;> first | omega | (subst e1 e2; omega)
  · have z4 : ru.natAbs * 1 ≤ ru.natAbs * g.natAbs := Nat.mul_le_mul_left _ (by omega)
    have z5 : rv.natAbs * 1 ≤ rv.natAbs * g.natAbs := Nat.mul_le_mul_left _ (by omega)
    refine ⟨by omega, by omega, by omega, by omega⟩
theorem Bz.step {a b g u v r ru rv : Int} (h : Bz a b g u v r ru rv) (hr : r ≠ 0) : Bz a b r ru rv (g - g.fdiv r * r) (u - g.fdiv r * ru) (v - g.fdiv r * rv) := by
  have sz := h.size hr
  obtain ⟨h1, h2, h3, h4⟩ := h
  obtain ⟨k1, k2, k3⟩ := fd_rest (g := g) hr
  refine ⟨h2, ?_, ⟨by rw [gcd_step]; exact h3.1, sz.2.2⟩, .inr ⟨?_, ?_, k1, ?_, ?_⟩⟩
  · rw [← h1, ← h2]
    generalize (u * a + v * b).fdiv (ru * a + rv * b) = q
    rw [Int.sub_mul, Int.sub_mul, Int.mul_add, Int.mul_assoc, Int.mul_assoc]
    omega
  · by_cases z : 0 < r
    · exact .inl ⟨by omega, k2 z⟩
    · exact .inr ⟨by omega, k3 (by omega)⟩
  · rcases h4 with ⟨e1, e2, _⟩ | ⟨_, e2, e3, _⟩
    · rw [e2]
      omega
    · omega
  · rcases h4 with ⟨e1, e2, e3, e4, e5, e6⟩ | ⟨e1, e2, e3, e4, e5⟩
    · rw [e3, e5, e2]
      simp
      omega
    · refine Nat.le_trans (Nat.add_le_add_right (Nat.mul_le_mul_right _ (abs_sub_mul u (g.fdiv r) ru)) _) (step_lt (same_div ?_) e4)
      omega
  · rcases h4 with ⟨e1, e2, e3, e4, e5, e6⟩ | ⟨e1, e2, e3, e4, e5⟩
    · rw [e4, e6]
      have z := abs_sub_mul 0 (g.fdiv r) 1
      have z2 : (g.fdiv r).natAbs * r.natAbs ≤ g.natAbs + r.natAbs := by
        rw [← Int.natAbs_mul]
        omega
      have z3 := Nat.mul_le_mul_right r.natAbs z
      have z4 : (Int.natAbs 0 + (g.fdiv r).natAbs * Int.natAbs 1) * r.natAbs = (g.fdiv r).natAbs * r.natAbs := by simp
      rw [z4] at z3
      have z5 : Int.natAbs 1 * (g - g.fdiv r * r).natAbs = (g - g.fdiv r * r).natAbs := by simp
      rw [z5]
      subst e1 e2
      omega
    · refine Nat.le_trans (Nat.add_le_add_right (Nat.mul_le_mul_right _ (abs_sub_mul v (g.fdiv r) rv)) _) (step_lt (same_div ?_) e5)
      omega

/-! ### the law's own root -/
theorem rootI_uniq {n r : Int} (h : 0 ≤ n) (h0 : 0 ≤ r) (h1 : r * r ≤ n) (h2 : n < (r + 1) * (r + 1)) : r = rootI n := by
  obtain ⟨k0, k1, k2⟩ := rootI_spec h
  generalize rootI n = s at k0 k1 k2 ⊢
  by_cases a : r < s
  · have z : (r + 1) * (r + 1) ≤ s * s := Int.mul_le_mul (by omega) (by omega) (by omega) (by omega)
    omega
  · by_cases b : s < r
    · have z : (s + 1) * (s + 1) ≤ r * r := Int.mul_le_mul (by omega) (by omega) (by omega) (by omega)
      omega
    · omega
theorem half_step {low high n : Int} {i : Nat} (h : low + 1 < high) (hi : (high - low - 1) * 2 ^ i ≤ n) : ((low + high) / 2 - low - 1) * 2 ^ (i + 1) ≤ n ∧ (high - (low + high) / 2 - 1) * 2 ^ (i + 1) ≤ n ∧ low < (low + high) / 2 ∧ (low + high) / 2 < high := by
  have e : (2 : Int) ^ (i + 1) = 2 * 2 ^ i := by rw [Int.pow_succ, Int.mul_comm]
  have p0 : (0 : Int) < 2 ^ i := Int.pow_pos (by decide)
  rw [e]
  generalize (2 : Int) ^ i = B at hi p0 ⊢
  have m1 : (low + high) / 2 - low - 1 ≤ (high - low - 1) / 2 := by omega
  have m2 : high - (low + high) / 2 - 1 ≤ (high - low - 1) / 2 := by omega
  have m3 : 2 * ((high - low - 1) / 2) ≤ high - low - 1 := by omega
  refine ⟨?_, ?_, by omega, by omega⟩
  · have a1 : ((low + high) / 2 - low - 1) * (2 * B) = (2 * ((low + high) / 2 - low - 1)) * B := by grind
    have a2 : (2 * ((low + high) / 2 - low - 1)) * B ≤ (high - low - 1) * B := Int.mul_le_mul_of_nonneg_right (by omega) (by omega)
    omega
  · have a1 : (high - (low + high) / 2 - 1) * (2 * B) = (2 * (high - (low + high) / 2 - 1)) * B := by grind
    have a2 : (2 * (high - (low + high) / 2 - 1)) * B ≤ (high - low - 1) * B := Int.mul_le_mul_of_nonneg_right (by omega) (by omega)
    omega

/-! ### roots of a polynomial -/
/-- what is tried: the tops -/
def topsQ (b r : Int) : List Int := if r = 0 then [-b] else [-b - r, -b + r]
theorem root_sq {r d : Int} (r0 : 0 ≤ r) (h : r * r = d) : rootI d = r := by
  have hd : 0 ≤ d := by
    rw [← h]
    exact Int.mul_nonneg r0 r0
  have e : (r + 1) * (r + 1) = r * r + 2 * r + 1 := by grind
  exact (rootI_uniq hd r0 (by omega) (by omega)).symm
theorem quad_sq {a b c t : Int} (h : a * t * t + b * t + c = 0) : (2 * a * t + b) * (2 * a * t + b) = b * b - 4 * a * c := by
  have : (2 * a * t + b) * (2 * a * t + b) = 4 * a * (a * t * t + b * t + c) + (b * b - 4 * a * c) := by grind
  rw [this, h]
  omega
theorem quad_no {a b c t : Int} (h : a * t * t + b * t + c = 0) : 0 ≤ b * b - 4 * a * c ∧ rootI (b * b - 4 * a * c) * rootI (b * b - 4 * a * c) = b * b - 4 * a * c := by
  have e := quad_sq h
  have e2 : ((2 * a * t + b).natAbs : Int) * ((2 * a * t + b).natAbs : Int) = b * b - 4 * a * c := by
    rw [← e]
    rcases Int.natAbs_eq (2 * a * t + b) with k | k <;> (conv => rhs; rw [k]) <;> grind
  have r := root_sq (by omega) e2
  refine ⟨?_, by rw [r, e2]⟩
  rw [← e2]
  exact Int.mul_nonneg (by omega) (by omega)
theorem quad_iff {a b c r t : Int} (a0 : a ≠ 0) (r0 : 0 ≤ r) (hr : r * r = b * b - 4 * a * c) : a * t * t + b * t + c = 0 ↔ 2 * a * t ∈ topsQ b r := by
  have key : 4 * a * (a * t * t + b * t + c) = (2 * a * t + b - r) * (2 * a * t + b + r) := by
    have : (2 * a * t + b - r) * (2 * a * t + b + r) = (2 * a * t + b) * (2 * a * t + b) - r * r := by grind
    rw [this, hr]
    grind
  have iff2 : (2 * a * t + b - r = 0 ∨ 2 * a * t + b + r = 0) ↔ 2 * a * t ∈ topsQ b r := by
    unfold topsQ
    by_cases z : r = 0
    · rw [if_pos z, List.mem_singleton]
      omega
    · rw [if_neg z, List.mem_cons, List.mem_singleton]
      omega
  rw [← iff2]
  constructor
  · intro h
    rw [h] at key
    exact Int.mul_eq_zero.mp (by omega)
  · intro h
    have : (2 * a * t + b - r) * (2 * a * t + b + r) = 0 := Int.mul_eq_zero.mpr h
    rw [this] at key
    rcases Int.mul_eq_zero.mp key with k | k
    · omega
    · exact k
def tpP (a : Int) (x : Int) : Bool := decide (x.fmod (2 * a) = 0)
def tpF (a : Int) (x : Int) : Int := x.fdiv (2 * a)
theorem tops_nodup {a b r : Int} (a0 : a ≠ 0) : (((topsQ b r).filter (tpP a)).map (tpF a)).Nodup := by
  have inj : ∀ x ∈ (topsQ b r).filter (tpP a), 2 * a * tpF a x = x := by
    intro x hx
    have h := of_decide_eq_true (List.mem_filter.mp hx).2
    unfold tpF
    rw [Int.mul_comm]
    exact Int.fdiv_mul_cancel_of_fmod_eq_zero h
  have nd : ((topsQ b r).filter (tpP a)).Nodup := by
    refine List.Pairwise.filter _ ?_
    unfold topsQ
    split
    · simp
    · simp
      omega
  refine List.pairwise_map.mpr (List.Pairwise.imp_of_mem ?_ nd)
  intro x y hx hy hne e
  exact hne (by rw [← inj x hx, ← inj y hy, e])
theorem tops_mem {a b r t : Int} (a0 : a ≠ 0) : t ∈ ((topsQ b r).filter (tpP a)).map (tpF a) ↔ 2 * a * t ∈ topsQ b r := by
  rw [List.mem_map]
  constructor
  · rintro ⟨x, hx, rfl⟩
    obtain ⟨h1, h2⟩ := List.mem_filter.mp hx
    have e : 2 * a * tpF a x = x := by
      unfold tpF
      rw [Int.mul_comm]
      exact Int.fdiv_mul_cancel_of_fmod_eq_zero (of_decide_eq_true h2)
    rw [e]
    exact h1
  · intro h
    refine ⟨2 * a * t, List.mem_filter.mpr ⟨h, decide_eq_true ?_⟩, ?_⟩
    · exact Int.fmod_eq_zero_of_dvd ⟨t, rfl⟩
    · unfold tpF
      exact Int.mul_fdiv_cancel_left _ (by omega)
section
variable {P : Program} {w : World} {K : PySem.W.Frag} {mg : Str → Option Value} {base : Heap} {fa : Nat → Addr} {fd : Nat → FuncData}
def spFloorRoot (_ : PySem.W.Frag) : Sp := fun vs H Q _ => ∃ n : Int, vs = [.int n] ∧ 0 ≤ n ∧ n.natAbs < 2 ^ 13000 ∧ Q (.int (rootI n)) H
theorem okFloorRoot (T : Txt K mg fa fd) : FnOk P w K mg base CX0 1 (fa 0) (fd 0) ["n"] (spFloorRoot K) := by
  refine T.F_floor_root.ok scFloorRoot (fun vs H Q E h => ?_) (fun cdv A outer s H vs Q E hr h => ?_)
  · obtain ⟨n, rfl, h0, h1, q⟩ := h
    rfl
  · obtain ⟨n, rfl, h0, h1, q⟩ := h
    refine ⟨_, (pss_one (ps_ret (pe_callBfun cr_isqrt (by rfl) T.g_isqrt (pa_cons (pv 0) pa_nil)))), ?_⟩
    exact ⟨_, rfl, _, rfl, h0, h1, q⟩
def spIsSquare (_ : PySem.W.Frag) : Sp := fun vs H Q _ => ∃ n : Int, vs = [.int n] ∧ n.natAbs < 2 ^ 13000 ∧ Q (.bl (decide (0 ≤ n ∧ rootI n * rootI n = n))) H
theorem uIsSquare {K : PySem.W.Frag} {H : Hp} {Q : VK} {E : XK} {vs : List V} {n : Int} {m : Nat} (hev : vs = [.int n]) (h0 : Bd m n) (h1 : Nat.ble m 13000 = true) (kk : Q (.bl (decide (0 ≤ n ∧ rootI n * rootI n = n))) H) : spIsSquare K vs H Q E := ⟨n, hev, bdm h0 h1, kk⟩
theorem okIsSquare (T : Txt K mg fa fd) : FnOk P w K mg base CX0 2 (fa 1) (fd 1) ["n"] (spIsSquare K) := by
  refine T.F_is_square.ok scIsSquare (fun vs H Q E h => ?_) (fun cdv A outer s H vs Q E hr h => ?_)
  · obtain ⟨n, rfl, h1, q⟩ := h
    rfl
  · obtain ⟨n, rfl, h1, q⟩ := h
    refine ⟨_, (pss_cons (ps_if (pt_cmp (pc_lt (pv 0) pe_int))
      (pss_one (ps_ret pe_bl))
      pss_nil)
      (pss_cons (ps_set (i := 1) scIsSquare.nd rfl (Or.inl rfl) (pe_call (sp := spFloorRoot K) (okFloorRoot T) hr (by rfl) T.G_floor_root T.F_floor_root.kp T.B_floor_root .nil pass0 (pa_cons (pv 0) pa_nil)))
      (pss_one (ps_ret (pe_cmp (pc_eqI (pe_op op_mulW (pv 1) (pv 1)) (pv 0))))))), ?_⟩
    refine ⟨_, rfl, _, _, rfl, rfl, _, rfl, ite2 (fun e => ?_) (fun e => ?_)⟩
    · have e1 : n < 0 := of_decide_eq_true e
      have e2 : decide (0 ≤ n ∧ rootI n * rootI n = n) = false := decide_eq_false fun z => by omega
      rw [e2] at q
      exact q
    · have e1 : ¬ n < 0 := fun z => e (decide_eq_true z)
      have h0 : 0 ≤ n := by omega
      have hr := rootI_lt h0 h1
      refine ⟨_, rfl, n, rfl, h0, h1, _, rfl, _, rfl, _, _, rfl, rfl, wide_mul hr hr (by decide) (by decide) (by decide), _, rfl, _, _, rfl, rfl, ?_⟩
      have e2 : decide (0 ≤ n ∧ rootI n * rootI n = n) = decide (rootI n * rootI n = n) := by
        rw [decide_eq_decide]
        exact ⟨fun z => z.2, fun z => ⟨h0, z⟩⟩
      rw [e2] at q
      exact q
def RootsQ (a b c : Int) (ts : List Int) : Prop := ts.Pairwise (· < ·) ∧ ∀ t, t ∈ ts ↔ a * t * t + b * t + c = 0
def spQuadraticRoots (_ : PySem.W.Frag) : Sp := fun vs H Q _ => ∃ (a b c : Int), vs = [.int a, .int b, .int c] ∧ (a ≠ 0 ∨ b ≠ 0) ∧ Bd 3000 a ∧ Bd 3000 b ∧ Bd 3000 c ∧
  ∀ H' L ts, Same H H' → H L = none → H' L = some (.lst (ts.map V.int)) → RootsQ a b c ts → ts.length ≤ 2 → Q (.ref L) H'
theorem uQuadraticRoots {K : PySem.W.Frag} {H : Hp} {Q : VK} {E : XK} {vs : List V} {a b c : Int} (hev : vs = [.int a, .int b, .int c]) (h0 : a ≠ 0 ∨ b ≠ 0) (b1 : Bd 3000 a) (b2 : Bd 3000 b) (b3 : Bd 3000 c)
    (kk : ∀ H' L ts, Same H H' → H L = none → H' L = some (.lst (ts.map V.int)) → RootsQ a b c ts → ts.length ≤ 2 → Q (.ref L) H') : spQuadraticRoots K vs H Q E := ⟨a, b, c, hev, h0, b1, b2, b3, kk⟩
theorem okQuadraticRoots (T : Txt K mg fa fd) : FnOk P w K mg base CX0 3 (fa 2) (fd 2) ["a", "b", "c"] (spQuadraticRoots K) := by
  refine T.F_quadratic_roots.ok scQuadraticRoots (fun vs H Q E h => ?_) (fun cdv A outer s H vs Q E hr h => ?_)
  · obtain ⟨a, b, c, rfl, h0, b1, b2, b3, kk⟩ := h
    rfl
  · obtain ⟨a, b, c, rfl, h0, b1, b2, b3, kk⟩ := h
    refine ⟨_, (pss_cons (ps_if (pt_cmp (pc_eqI (pv 0) pe_int))
      (pss_one (ps_ret (pe_ifExp (pt_cmp (pc_eqI (pe_op op_modN (pv 2) (pv 1)) pe_int)) (pe_lst (pa_cons (pe_op op_fdivX (pe_un un_neg (pv 2)) (pv 1)) pa_nil)) (pe_lst pa_nil))))
      pss_nil)
      (pss_cons (ps_set (i := 3) scQuadraticRoots.nd rfl (Or.inl rfl) (pe_op op_sub (pe_op op_mulW (pv 1) (pv 1)) (pe_op op_mulW (pe_op op_mulW pe_int (pv 0)) (pv 2))))
      (pss_cons (ps_if (pt_not (pt_val (pe_call (sp := spIsSquare K) (okIsSquare T) hr (by rfl) T.G_is_square T.F_is_square.kp T.B_is_square .nil pass0 (pa_cons (pv 3) pa_nil))))
      (pss_one (ps_ret (pe_lst pa_nil)))
      pss_nil)
      (pss_cons (ps_set (i := 4) scQuadraticRoots.nd rfl (Or.inl rfl) (pe_call (sp := spFloorRoot K) (okFloorRoot T) (hr.mono (by decide)) (by rfl) T.G_floor_root T.F_floor_root.kp T.B_floor_root .nil pass0 (pa_cons (pv 3) pa_nil)))
      (pss_cons (ps_set (i := 5) scQuadraticRoots.nd rfl (Or.inl rfl) (pe_ifExp (pt_cmp (pc_eqI (pv 4) pe_int)) (pe_lst (pa_cons (pe_un un_neg (pv 1)) pa_nil)) (pe_lst (pa_cons (pe_op op_sub (pe_un un_neg (pv 1)) (pv 4)) (pa_cons (pe_op op_add (pe_un un_neg (pv 1)) (pv 4)) pa_nil)))))
      (pss_one (ps_ret (pe_callB (srtQ K) (by rfl) T.m_sorted (by decide +kernel) (pa_cons (pe_lc (own := [("top", 6)]) (g := gName 6)  rfl scQuadraticRoots.nd (piL K (pv 5)) (blkOk_by (own := [("top", 6)]) (N := ["a", "b", "c", "d", "root", "tops", "top"]) (sc := defScope sQuadraticRoots) (by decide +kernel)) (fun _ _ _ _ _ => (pg_name (i := 6) scQuadraticRoots.nd rfl (Or.inl rfl))) (fun _ _ _ _ _ => (pts_one (pt_cmp (pc_eqI (pe_op op_modN (pv 6) (pe_op op_mulW pe_int (pv 0))) pe_int)))) (fun _ _ _ _ _ => (pe_op op_fdivX (pv 6) (pe_op op_mulW pe_int (pv 0))))) pa_nil))))))))), ?_⟩
    repeat' (first
      | with_reducible apply R.var
      | with_reducible apply R.gsE
      | ((with_reducible apply R.gsN); (focus exact rfl))
      | with_reducible apply R.lenS
      | ((with_reducible apply R.lenB); exact rfl)
      | ((with_reducible apply R.isEq); exact rfl)
      | with_reducible apply R.op
      | with_reducible apply R.i2
      | with_reducible apply R.i0
      | with_reducible apply R.con
      | with_reducible apply R.cons
      | with_reducible apply R.nil
      | with_reducible apply R.gcons
      | with_reducible apply R.gname
      | ((with_reducible apply R.ixT); (focus ((repeat' (first | with_reducible assumption | with_reducible apply hU | ((with_reducible apply SqT.of); with_reducible assumption) | ((with_reducible apply same_seqT); with_reducible assumption) | ((with_reducible apply kp_seqT); with_reducible assumption) | ((with_reducible apply Dw.same); with_reducible assumption))); done)); exact rfl)
      | ((with_reducible apply R.ixL); (focus ((repeat' (first | with_reducible assumption | ((with_reducible apply SqL.of); with_reducible assumption) | ((with_reducible apply Same.seq); with_reducible assumption) | ((with_reducible apply Kp.seqL); with_reducible assumption) | ((with_reducible apply fresh_ne); with_reducible assumption) | ((with_reducible apply Dw.same); with_reducible assumption))); done)); exact rfl)
      | with_reducible assumption
      | with_reducible apply Bd.mulW
      | with_reducible apply Bd.mul
      | with_reducible apply Bd.add
      | with_reducible apply Bd.sub
      | ((with_reducible apply Bd.l8); exact eq_true (by decide))
      | ((with_reducible apply Bd.lit); exact eq_true (by decide))
      | with_reducible apply Bd.neg
      | with_reducible apply Bd.div
      | with_reducible apply Bd.abs
      | with_reducible apply Bd.mod
      | with_reducible apply Bd.fdiv
      | ((with_reducible apply Bd.om); omega)
      | ((with_reducible apply R.isLe); first | decide | omega)
      | with_reducible apply R.un
      | with_reducible apply R.u1
      | with_reducible apply R.tup
      | with_reducible apply R.lst
      | with_reducible apply R.call
      | with_reducible apply R.callB
      | with_reducible apply R.gtup
      | with_reducible apply R.gnil
      | with_reducible apply R.seq
      | with_reducible apply R.asg
      | with_reducible apply R.ret
      | with_reducible apply R.brk
      | with_reducible apply R.cont
      | with_reducible apply R.next
      | with_reducible apply R.drop
      | with_reducible apply R.par
      | with_reducible apply R.par2
      | with_reducible apply R.ifs
      | with_reducible apply R.tif
      | with_reducible apply R.test
      | with_reducible apply R.tb'
      | with_reducible apply R.isbl
      | with_reducible apply R.cmp
      | with_reducible apply R.t2i
      | with_reducible apply R.intp
      | with_reducible apply R.and
      | with_reducible apply R.or
      | with_reducible apply R.not
      | with_reducible apply R.andV
      | with_reducible apply R.orV
      | with_reducible apply R.notV
      | with_reducible apply R.chain
      | with_reducible apply R.tupL
      | with_reducible apply R.lstL
      | with_reducible apply R.cat
      | with_reducible apply R.absI
      | with_reducible apply R.intI
      | with_reducible apply R.intB
      | with_reducible apply R.eqS
      | with_reducible apply R.eqBl
      | with_reducible apply R.neBl
      | with_reducible apply R.sl
      | with_reducible apply R.noPart
      | with_reducible apply R.part
      | with_reducible apply R.isInt
      | with_reducible apply R.slL
      | with_reducible apply R.isiT
      | with_reducible apply R.isiLst
      | with_reducible apply R.nwT
      | with_reducible apply R.nwL
      | ((with_reducible apply R.mt); intro HN tn sn nn ht)
      | ((with_reducible apply R.ml); intro HN tn sn nn ht)
      | ((with_reducible apply R.isiTupS); focus ((repeat' (first | with_reducible assumption | with_reducible apply hU | ((with_reducible apply SqT.of); with_reducible assumption) | ((with_reducible apply same_seqT); with_reducible assumption) | ((with_reducible apply kp_seqT); with_reducible assumption) | ((with_reducible apply Dw.same); with_reducible assumption))); done))
      | ((with_reducible apply R.ne4); focus ((repeat' (first | with_reducible assumption | with_reducible apply hU | ((with_reducible apply SqT.of); with_reducible assumption) | ((with_reducible apply same_seqT); with_reducible assumption) | ((with_reducible apply kp_seqT); with_reducible assumption) | ((with_reducible apply Dw.same); with_reducible assumption))); done))
      | ((with_reducible apply R.ne3); focus ((repeat' (first | with_reducible assumption | with_reducible apply hU | ((with_reducible apply SqT.of); with_reducible assumption) | ((with_reducible apply same_seqT); with_reducible assumption) | ((with_reducible apply kp_seqT); with_reducible assumption) | ((with_reducible apply Dw.same); with_reducible assumption))); done))
      | ((with_reducible apply R.ne2); focus ((repeat' (first | with_reducible assumption | with_reducible apply hU | ((with_reducible apply SqT.of); with_reducible assumption) | ((with_reducible apply same_seqT); with_reducible assumption) | ((with_reducible apply kp_seqT); with_reducible assumption) | ((with_reducible apply Dw.same); with_reducible assumption))); done))
      | ((with_reducible apply R.eq4); focus ((repeat' (first | with_reducible assumption | with_reducible apply hU | ((with_reducible apply SqT.of); with_reducible assumption) | ((with_reducible apply same_seqT); with_reducible assumption) | ((with_reducible apply kp_seqT); with_reducible assumption) | ((with_reducible apply Dw.same); with_reducible assumption))); done))
      | ((with_reducible apply R.eq3); focus ((repeat' (first | with_reducible assumption | with_reducible apply hU | ((with_reducible apply SqT.of); with_reducible assumption) | ((with_reducible apply same_seqT); with_reducible assumption) | ((with_reducible apply kp_seqT); with_reducible assumption) | ((with_reducible apply Dw.same); with_reducible assumption))); done))
      | ((with_reducible apply R.eq2); focus ((repeat' (first | with_reducible assumption | with_reducible apply hU | ((with_reducible apply SqT.of); with_reducible assumption) | ((with_reducible apply same_seqT); with_reducible assumption) | ((with_reducible apply kp_seqT); with_reducible assumption) | ((with_reducible apply Dw.same); with_reducible assumption))); done))
      | with_reducible apply uLawNext
      | with_reducible apply uLawWide
      | with_reducible apply uValueAt
      | with_reducible apply uIsSquare
      | ((with_reducible apply R.nw); intro HN tn sn ht)
      | with_reducible apply iteT
      | with_reducible apply iteF
      | with_reducible apply R.notT
      | with_reducible apply R.notF
      | ((with_reducible apply SqT.of); with_reducible assumption)
      | ((with_reducible apply SqL.of); with_reducible assumption)
      | ((with_reducible apply same_seqT); with_reducible assumption)
      | ((with_reducible apply sameB); with_reducible assumption)
      | ((with_reducible apply same_at); with_reducible assumption)
      | ((with_reducible apply kp_seqT); with_reducible assumption)
      | ((with_reducible apply Same.seq); with_reducible assumption)
      | ((with_reducible apply Kp.seqL); with_reducible assumption)
      | ((with_reducible apply fresh_ne); with_reducible assumption)
      | ((with_reducible apply Dw.same); with_reducible assumption)
      | ((with_reducible apply R.isEq); exact eq_true (by first | decide | omega))
      | ((with_reducible apply R.isLt); first | decide | omega)
      | ((with_reducible apply R.isLtI); first | decide | omega)
      | ((with_reducible apply R.isLeI); first | decide | omega)
      | ((with_reducible apply R.cdiv); exact rfl)
      | ((with_reducible apply R.cpow); exact rfl)
      | with_reducible apply R.cdivX
      | ((with_reducible apply R.isNe); omega)
      | with_reducible apply hU
      | ((with_reducible apply wayNF); first | exact rfl | exact ⟨rfl, rfl⟩ | exact ⟨rfl, rfl, rfl⟩ | exact ⟨rfl, rfl, rfl, rfl⟩)
      | with_reducible apply R.bm
      | ((with_reducible apply R.bmT); (focus ((first | with_reducible assumption | ((with_reducible apply same_at); with_reducible assumption) | ((with_reducible apply kp_at); with_reducible assumption)); done)))
      | with_reducible apply R.dput
      | with_reducible apply R.dget
      | with_reducible apply R.din
      | with_reducible apply R.dget2
      | with_reducible apply R.forE
      | with_reducible apply R.rng1
      | with_reducible apply R.rng2
      | with_reducible apply R.rg1
      | with_reducible apply R.rg2
      | with_reducible apply R.lcE
      | with_reducible apply R.itup
      | with_reducible apply R.ilst
      )
    refine way2 (fun z => ?_) (fun z => ?_)
    · subst z
      have b0 : b ≠ 0 := by omega
      repeat' (first
        | with_reducible apply R.var
        | with_reducible apply R.gsE
        | ((with_reducible apply R.gsN); (focus exact rfl))
        | with_reducible apply R.lenS
        | ((with_reducible apply R.lenB); exact rfl)
        | ((with_reducible apply R.isEq); exact rfl)
        | with_reducible apply R.op
        | with_reducible apply R.i2
        | with_reducible apply R.i0
        | with_reducible apply R.con
        | with_reducible apply R.cons
        | with_reducible apply R.nil
        | with_reducible apply R.gcons
        | with_reducible apply R.gname
        | ((with_reducible apply R.ixT); (focus ((repeat' (first | with_reducible assumption | with_reducible apply hU | ((with_reducible apply SqT.of); with_reducible assumption) | ((with_reducible apply same_seqT); with_reducible assumption) | ((with_reducible apply kp_seqT); with_reducible assumption) | ((with_reducible apply Dw.same); with_reducible assumption))); done)); exact rfl)
        | ((with_reducible apply R.ixL); (focus ((repeat' (first | with_reducible assumption | ((with_reducible apply SqL.of); with_reducible assumption) | ((with_reducible apply Same.seq); with_reducible assumption) | ((with_reducible apply Kp.seqL); with_reducible assumption) | ((with_reducible apply fresh_ne); with_reducible assumption) | ((with_reducible apply Dw.same); with_reducible assumption))); done)); exact rfl)
        | with_reducible assumption
        | with_reducible apply Bd.mulW
        | with_reducible apply Bd.mul
        | with_reducible apply Bd.add
        | with_reducible apply Bd.sub
        | ((with_reducible apply Bd.l8); exact eq_true (by decide))
        | ((with_reducible apply Bd.lit); exact eq_true (by decide))
        | with_reducible apply Bd.neg
        | with_reducible apply Bd.div
        | with_reducible apply Bd.abs
        | with_reducible apply Bd.mod
        | with_reducible apply Bd.fdiv
        | ((with_reducible apply Bd.om); omega)
        | ((with_reducible apply R.isLe); first | decide | omega)
        | with_reducible apply R.un
        | with_reducible apply R.u1
        | with_reducible apply R.tup
        | with_reducible apply R.lst
        | with_reducible apply R.call
        | with_reducible apply R.callB
        | with_reducible apply R.gtup
        | with_reducible apply R.gnil
        | with_reducible apply R.seq
        | with_reducible apply R.asg
        | with_reducible apply R.ret
        | with_reducible apply R.brk
        | with_reducible apply R.cont
        | with_reducible apply R.next
        | with_reducible apply R.drop
        | with_reducible apply R.par
        | with_reducible apply R.par2
        | with_reducible apply R.ifs
        | with_reducible apply R.tif
        | with_reducible apply R.test
        | with_reducible apply R.tb'
        | with_reducible apply R.isbl
        | with_reducible apply R.cmp
        | with_reducible apply R.t2i
        | with_reducible apply R.intp
        | with_reducible apply R.and
        | with_reducible apply R.or
        | with_reducible apply R.not
        | with_reducible apply R.andV
        | with_reducible apply R.orV
        | with_reducible apply R.notV
        | with_reducible apply R.chain
        | with_reducible apply R.tupL
        | with_reducible apply R.lstL
        | with_reducible apply R.cat
        | with_reducible apply R.absI
        | with_reducible apply R.intI
        | with_reducible apply R.intB
        | with_reducible apply R.eqS
        | with_reducible apply R.eqBl
        | with_reducible apply R.neBl
        | with_reducible apply R.sl
        | with_reducible apply R.noPart
        | with_reducible apply R.part
        | with_reducible apply R.isInt
        | with_reducible apply R.slL
        | with_reducible apply R.isiT
        | with_reducible apply R.isiLst
        | with_reducible apply R.nwT
        | with_reducible apply R.nwL
        | ((with_reducible apply R.mt); intro HN tn sn nn ht)
        | ((with_reducible apply R.ml); intro HN tn sn nn ht)
        | ((with_reducible apply R.isiTupS); focus ((repeat' (first | with_reducible assumption | with_reducible apply hU | ((with_reducible apply SqT.of); with_reducible assumption) | ((with_reducible apply same_seqT); with_reducible assumption) | ((with_reducible apply kp_seqT); with_reducible assumption) | ((with_reducible apply Dw.same); with_reducible assumption))); done))
        | ((with_reducible apply R.ne4); focus ((repeat' (first | with_reducible assumption | with_reducible apply hU | ((with_reducible apply SqT.of); with_reducible assumption) | ((with_reducible apply same_seqT); with_reducible assumption) | ((with_reducible apply kp_seqT); with_reducible assumption) | ((with_reducible apply Dw.same); with_reducible assumption))); done))
        | ((with_reducible apply R.ne3); focus ((repeat' (first | with_reducible assumption | with_reducible apply hU | ((with_reducible apply SqT.of); with_reducible assumption) | ((with_reducible apply same_seqT); with_reducible assumption) | ((with_reducible apply kp_seqT); with_reducible assumption) | ((with_reducible apply Dw.same); with_reducible assumption))); done))
        | ((with_reducible apply R.ne2); focus ((repeat' (first | with_reducible assumption | with_reducible apply hU | ((with_reducible apply SqT.of); with_reducible assumption) | ((with_reducible apply same_seqT); with_reducible assumption) | ((with_reducible apply kp_seqT); with_reducible assumption) | ((with_reducible apply Dw.same); with_reducible assumption))); done))
        | ((with_reducible apply R.eq4); focus ((repeat' (first | with_reducible assumption | with_reducible apply hU | ((with_reducible apply SqT.of); with_reducible assumption) | ((with_reducible apply same_seqT); with_reducible assumption) | ((with_reducible apply kp_seqT); with_reducible assumption) | ((with_reducible apply Dw.same); with_reducible assumption))); done))
        | ((with_reducible apply R.eq3); focus ((repeat' (first | with_reducible assumption | with_reducible apply hU | ((with_reducible apply SqT.of); with_reducible assumption) | ((with_reducible apply same_seqT); with_reducible assumption) | ((with_reducible apply kp_seqT); with_reducible assumption) | ((with_reducible apply Dw.same); with_reducible assumption))); done))
        | ((with_reducible apply R.eq2); focus ((repeat' (first | with_reducible assumption | with_reducible apply hU | ((with_reducible apply SqT.of); with_reducible assumption) | ((with_reducible apply same_seqT); with_reducible assumption) | ((with_reducible apply kp_seqT); with_reducible assumption) | ((with_reducible apply Dw.same); with_reducible assumption))); done))
        | with_reducible apply uLawNext
        | with_reducible apply uLawWide
        | with_reducible apply uValueAt
        | with_reducible apply uIsSquare
        | ((with_reducible apply R.nw); intro HN tn sn ht)
        | with_reducible apply iteT
        | with_reducible apply iteF
        | with_reducible apply R.notT
        | with_reducible apply R.notF
        | ((with_reducible apply SqT.of); with_reducible assumption)
        | ((with_reducible apply SqL.of); with_reducible assumption)
        | ((with_reducible apply same_seqT); with_reducible assumption)
        | ((with_reducible apply sameB); with_reducible assumption)
        | ((with_reducible apply same_at); with_reducible assumption)
        | ((with_reducible apply kp_seqT); with_reducible assumption)
        | ((with_reducible apply Same.seq); with_reducible assumption)
        | ((with_reducible apply Kp.seqL); with_reducible assumption)
        | ((with_reducible apply fresh_ne); with_reducible assumption)
        | ((with_reducible apply Dw.same); with_reducible assumption)
        | ((with_reducible apply R.isEq); exact eq_true (by first | decide | omega))
        | ((with_reducible apply R.isLt); first | decide | omega)
        | ((with_reducible apply R.isLtI); first | decide | omega)
        | ((with_reducible apply R.isLeI); first | decide | omega)
        | ((with_reducible apply R.cdiv); exact rfl)
        | ((with_reducible apply R.cpow); exact rfl)
        | with_reducible apply R.cdivX
        | ((with_reducible apply R.isNe); omega)
        | with_reducible apply hU
        | ((with_reducible apply wayNF); first | exact rfl | exact ⟨rfl, rfl⟩ | exact ⟨rfl, rfl, rfl⟩ | exact ⟨rfl, rfl, rfl, rfl⟩)
        | with_reducible apply R.bm
        | ((with_reducible apply R.bmT); (focus ((first | with_reducible assumption | ((with_reducible apply same_at); with_reducible assumption) | ((with_reducible apply kp_at); with_reducible assumption)); done)))
        | with_reducible apply R.dput
        | with_reducible apply R.dget
        | with_reducible apply R.din
        | with_reducible apply R.dget2
        | with_reducible apply R.forE
        | with_reducible apply R.rng1
        | with_reducible apply R.rng2
        | with_reducible apply R.rg1
        | with_reducible apply R.rg2
        | with_reducible apply R.lcE
        | with_reducible apply R.itup
        | with_reducible apply R.ilst
        )
      refine way2 (fun z => ?_) (fun z => ?_)
      · skip
        repeat' (first
          | with_reducible apply R.var
          | with_reducible apply R.gsE
          | ((with_reducible apply R.gsN); (focus exact rfl))
          | with_reducible apply R.lenS
          | ((with_reducible apply R.lenB); exact rfl)
          | ((with_reducible apply R.isEq); exact rfl)
          | with_reducible apply R.op
          | with_reducible apply R.i2
          | with_reducible apply R.i0
          | with_reducible apply R.con
          | with_reducible apply R.cons
          | with_reducible apply R.nil
          | with_reducible apply R.gcons
          | with_reducible apply R.gname
          | ((with_reducible apply R.ixT); (focus ((repeat' (first | with_reducible assumption | with_reducible apply hU | ((with_reducible apply SqT.of); with_reducible assumption) | ((with_reducible apply same_seqT); with_reducible assumption) | ((with_reducible apply kp_seqT); with_reducible assumption) | ((with_reducible apply Dw.same); with_reducible assumption))); done)); exact rfl)
          | ((with_reducible apply R.ixL); (focus ((repeat' (first | with_reducible assumption | ((with_reducible apply SqL.of); with_reducible assumption) | ((with_reducible apply Same.seq); with_reducible assumption) | ((with_reducible apply Kp.seqL); with_reducible assumption) | ((with_reducible apply fresh_ne); with_reducible assumption) | ((with_reducible apply Dw.same); with_reducible assumption))); done)); exact rfl)
          | with_reducible assumption
          | with_reducible apply Bd.mulW
          | with_reducible apply Bd.mul
          | with_reducible apply Bd.add
          | with_reducible apply Bd.sub
          | ((with_reducible apply Bd.l8); exact eq_true (by decide))
          | ((with_reducible apply Bd.lit); exact eq_true (by decide))
          | with_reducible apply Bd.neg
          | with_reducible apply Bd.div
          | with_reducible apply Bd.abs
          | with_reducible apply Bd.mod
          | with_reducible apply Bd.fdiv
          | ((with_reducible apply Bd.om); omega)
          | ((with_reducible apply R.isLe); first | decide | omega)
          | with_reducible apply R.un
          | with_reducible apply R.u1
          | with_reducible apply R.tup
          | with_reducible apply R.lst
          | with_reducible apply R.call
          | with_reducible apply R.callB
          | with_reducible apply R.gtup
          | with_reducible apply R.gnil
          | with_reducible apply R.seq
          | with_reducible apply R.asg
          | with_reducible apply R.ret
          | with_reducible apply R.brk
          | with_reducible apply R.cont
          | with_reducible apply R.next
          | with_reducible apply R.drop
          | with_reducible apply R.par
          | with_reducible apply R.par2
          | with_reducible apply R.ifs
          | with_reducible apply R.tif
          | with_reducible apply R.test
          | with_reducible apply R.tb'
          | with_reducible apply R.isbl
          | with_reducible apply R.cmp
          | with_reducible apply R.t2i
          | with_reducible apply R.intp
          | with_reducible apply R.and
          | with_reducible apply R.or
          | with_reducible apply R.not
          | with_reducible apply R.andV
          | with_reducible apply R.orV
          | with_reducible apply R.notV
          | with_reducible apply R.chain
          | with_reducible apply R.tupL
          | with_reducible apply R.lstL
          | with_reducible apply R.cat
          | with_reducible apply R.absI
          | with_reducible apply R.intI
          | with_reducible apply R.intB
          | with_reducible apply R.eqS
          | with_reducible apply R.eqBl
          | with_reducible apply R.neBl
          | with_reducible apply R.sl
          | with_reducible apply R.noPart
          | with_reducible apply R.part
          | with_reducible apply R.isInt
          | with_reducible apply R.slL
          | with_reducible apply R.isiT
          | with_reducible apply R.isiLst
          | with_reducible apply R.nwT
          | with_reducible apply R.nwL
          | ((with_reducible apply R.mt); intro HN tn sn nn ht)
          | ((with_reducible apply R.ml); intro HN tn sn nn ht)
          | ((with_reducible apply R.isiTupS); focus ((repeat' (first | with_reducible assumption | with_reducible apply hU | ((with_reducible apply SqT.of); with_reducible assumption) | ((with_reducible apply same_seqT); with_reducible assumption) | ((with_reducible apply kp_seqT); with_reducible assumption) | ((with_reducible apply Dw.same); with_reducible assumption))); done))
          | ((with_reducible apply R.ne4); focus ((repeat' (first | with_reducible assumption | with_reducible apply hU | ((with_reducible apply SqT.of); with_reducible assumption) | ((with_reducible apply same_seqT); with_reducible assumption) | ((with_reducible apply kp_seqT); with_reducible assumption) | ((with_reducible apply Dw.same); with_reducible assumption))); done))
          | ((with_reducible apply R.ne3); focus ((repeat' (first | with_reducible assumption | with_reducible apply hU | ((with_reducible apply SqT.of); with_reducible assumption) | ((with_reducible apply same_seqT); with_reducible assumption) | ((with_reducible apply kp_seqT); with_reducible assumption) | ((with_reducible apply Dw.same); with_reducible assumption))); done))
          | ((with_reducible apply R.ne2); focus ((repeat' (first | with_reducible assumption | with_reducible apply hU | ((with_reducible apply SqT.of); with_reducible assumption) | ((with_reducible apply same_seqT); with_reducible assumption) | ((with_reducible apply kp_seqT); with_reducible assumption) | ((with_reducible apply Dw.same); with_reducible assumption))); done))
          | ((with_reducible apply R.eq4); focus ((repeat' (first | with_reducible assumption | with_reducible apply hU | ((with_reducible apply SqT.of); with_reducible assumption) | ((with_reducible apply same_seqT); with_reducible assumption) | ((with_reducible apply kp_seqT); with_reducible assumption) | ((with_reducible apply Dw.same); with_reducible assumption))); done))
          | ((with_reducible apply R.eq3); focus ((repeat' (first | with_reducible assumption | with_reducible apply hU | ((with_reducible apply SqT.of); with_reducible assumption) | ((with_reducible apply same_seqT); with_reducible assumption) | ((with_reducible apply kp_seqT); with_reducible assumption) | ((with_reducible apply Dw.same); with_reducible assumption))); done))
          | ((with_reducible apply R.eq2); focus ((repeat' (first | with_reducible assumption | with_reducible apply hU | ((with_reducible apply SqT.of); with_reducible assumption) | ((with_reducible apply same_seqT); with_reducible assumption) | ((with_reducible apply kp_seqT); with_reducible assumption) | ((with_reducible apply Dw.same); with_reducible assumption))); done))
          | with_reducible apply uLawNext
          | with_reducible apply uLawWide
          | with_reducible apply uValueAt
          | with_reducible apply uIsSquare
          | ((with_reducible apply R.nw); intro HN tn sn ht)
          | with_reducible apply iteT
          | with_reducible apply iteF
          | with_reducible apply R.notT
          | with_reducible apply R.notF
          | ((with_reducible apply SqT.of); with_reducible assumption)
          | ((with_reducible apply SqL.of); with_reducible assumption)
          | ((with_reducible apply same_seqT); with_reducible assumption)
          | ((with_reducible apply sameB); with_reducible assumption)
          | ((with_reducible apply same_at); with_reducible assumption)
          | ((with_reducible apply kp_seqT); with_reducible assumption)
          | ((with_reducible apply Same.seq); with_reducible assumption)
          | ((with_reducible apply Kp.seqL); with_reducible assumption)
          | ((with_reducible apply fresh_ne); with_reducible assumption)
          | ((with_reducible apply Dw.same); with_reducible assumption)
          | ((with_reducible apply R.isEq); exact eq_true (by first | decide | omega))
          | ((with_reducible apply R.isLt); first | decide | omega)
          | ((with_reducible apply R.isLtI); first | decide | omega)
          | ((with_reducible apply R.isLeI); first | decide | omega)
          | ((with_reducible apply R.cdiv); exact rfl)
          | ((with_reducible apply R.cpow); exact rfl)
          | with_reducible apply R.cdivX
          | ((with_reducible apply R.isNe); omega)
          | with_reducible apply hU
          | ((with_reducible apply wayNF); first | exact rfl | exact ⟨rfl, rfl⟩ | exact ⟨rfl, rfl, rfl⟩ | exact ⟨rfl, rfl, rfl, rfl⟩)
          | with_reducible apply R.bm
          | ((with_reducible apply R.bmT); (focus ((first | with_reducible assumption | ((with_reducible apply same_at); with_reducible assumption) | ((with_reducible apply kp_at); with_reducible assumption)); done)))
          | with_reducible apply R.dput
          | with_reducible apply R.dget
          | with_reducible apply R.din
          | with_reducible apply R.dget2
          | with_reducible apply R.forE
          | with_reducible apply R.rng1
          | with_reducible apply R.rng2
          | with_reducible apply R.rg1
          | with_reducible apply R.rg2
          | with_reducible apply R.lcE
          | with_reducible apply R.itup
          | with_reducible apply R.ilst
          )
        refine kk _ _ [(-c).fdiv b] sn nn ht ⟨by simp, fun t => ?_⟩ (by simp)
        have hd := Int.dvd_of_fmod_eq_zero z
        obtain ⟨m, hm⟩ := hd
        have e : (-c).fdiv b = -m := by rw [hm, ← Int.mul_neg, Int.mul_fdiv_cancel_left _ b0]
        rw [List.mem_singleton, e]
        constructor
        · rintro rfl
          rw [hm]
          grind
        · intro h
          have h2 : b * (t + m) = 0 := by
            have : b * (t + m) = 0 * t * t + b * t + b * m := by grind
            rw [this, ← hm]
            exact h
          have := (Int.mul_eq_zero.mp h2).resolve_left b0
          omega
      · skip
        repeat' (first
          | with_reducible apply R.var
          | with_reducible apply R.gsE
          | ((with_reducible apply R.gsN); (focus exact rfl))
          | with_reducible apply R.lenS
          | ((with_reducible apply R.lenB); exact rfl)
          | ((with_reducible apply R.isEq); exact rfl)
          | with_reducible apply R.op
          | with_reducible apply R.i2
          | with_reducible apply R.i0
          | with_reducible apply R.con
          | with_reducible apply R.cons
          | with_reducible apply R.nil
          | with_reducible apply R.gcons
          | with_reducible apply R.gname
          | ((with_reducible apply R.ixT); (focus ((repeat' (first | with_reducible assumption | with_reducible apply hU | ((with_reducible apply SqT.of); with_reducible assumption) | ((with_reducible apply same_seqT); with_reducible assumption) | ((with_reducible apply kp_seqT); with_reducible assumption) | ((with_reducible apply Dw.same); with_reducible assumption))); done)); exact rfl)
          | ((with_reducible apply R.ixL); (focus ((repeat' (first | with_reducible assumption | ((with_reducible apply SqL.of); with_reducible assumption) | ((with_reducible apply Same.seq); with_reducible assumption) | ((with_reducible apply Kp.seqL); with_reducible assumption) | ((with_reducible apply fresh_ne); with_reducible assumption) | ((with_reducible apply Dw.same); with_reducible assumption))); done)); exact rfl)
          | with_reducible assumption
          | with_reducible apply Bd.mulW
          | with_reducible apply Bd.mul
          | with_reducible apply Bd.add
          | with_reducible apply Bd.sub
          | ((with_reducible apply Bd.l8); exact eq_true (by decide))
          | ((with_reducible apply Bd.lit); exact eq_true (by decide))
          | with_reducible apply Bd.neg
          | with_reducible apply Bd.div
          | with_reducible apply Bd.abs
          | with_reducible apply Bd.mod
          | with_reducible apply Bd.fdiv
          | ((with_reducible apply Bd.om); omega)
          | ((with_reducible apply R.isLe); first | decide | omega)
          | with_reducible apply R.un
          | with_reducible apply R.u1
          | with_reducible apply R.tup
          | with_reducible apply R.lst
          | with_reducible apply R.call
          | with_reducible apply R.callB
          | with_reducible apply R.gtup
          | with_reducible apply R.gnil
          | with_reducible apply R.seq
          | with_reducible apply R.asg
          | with_reducible apply R.ret
          | with_reducible apply R.brk
          | with_reducible apply R.cont
          | with_reducible apply R.next
          | with_reducible apply R.drop
          | with_reducible apply R.par
          | with_reducible apply R.par2
          | with_reducible apply R.ifs
          | with_reducible apply R.tif
          | with_reducible apply R.test
          | with_reducible apply R.tb'
          | with_reducible apply R.isbl
          | with_reducible apply R.cmp
          | with_reducible apply R.t2i
          | with_reducible apply R.intp
          | with_reducible apply R.and
          | with_reducible apply R.or
          | with_reducible apply R.not
          | with_reducible apply R.andV
          | with_reducible apply R.orV
          | with_reducible apply R.notV
          | with_reducible apply R.chain
          | with_reducible apply R.tupL
          | with_reducible apply R.lstL
          | with_reducible apply R.cat
          | with_reducible apply R.absI
          | with_reducible apply R.intI
          | with_reducible apply R.intB
          | with_reducible apply R.eqS
          | with_reducible apply R.eqBl
          | with_reducible apply R.neBl
          | with_reducible apply R.sl
          | with_reducible apply R.noPart
          | with_reducible apply R.part
          | with_reducible apply R.isInt
          | with_reducible apply R.slL
          | with_reducible apply R.isiT
          | with_reducible apply R.isiLst
          | with_reducible apply R.nwT
          | with_reducible apply R.nwL
          | ((with_reducible apply R.mt); intro HN tn sn nn ht)
          | ((with_reducible apply R.ml); intro HN tn sn nn ht)
          | ((with_reducible apply R.isiTupS); focus ((repeat' (first | with_reducible assumption | with_reducible apply hU | ((with_reducible apply SqT.of); with_reducible assumption) | ((with_reducible apply same_seqT); with_reducible assumption) | ((with_reducible apply kp_seqT); with_reducible assumption) | ((with_reducible apply Dw.same); with_reducible assumption))); done))
          | ((with_reducible apply R.ne4); focus ((repeat' (first | with_reducible assumption | with_reducible apply hU | ((with_reducible apply SqT.of); with_reducible assumption) | ((with_reducible apply same_seqT); with_reducible assumption) | ((with_reducible apply kp_seqT); with_reducible assumption) | ((with_reducible apply Dw.same); with_reducible assumption))); done))
          | ((with_reducible apply R.ne3); focus ((repeat' (first | with_reducible assumption | with_reducible apply hU | ((with_reducible apply SqT.of); with_reducible assumption) | ((with_reducible apply same_seqT); with_reducible assumption) | ((with_reducible apply kp_seqT); with_reducible assumption) | ((with_reducible apply Dw.same); with_reducible assumption))); done))
          | ((with_reducible apply R.ne2); focus ((repeat' (first | with_reducible assumption | with_reducible apply hU | ((with_reducible apply SqT.of); with_reducible assumption) | ((with_reducible apply same_seqT); with_reducible assumption) | ((with_reducible apply kp_seqT); with_reducible assumption) | ((with_reducible apply Dw.same); with_reducible assumption))); done))
          | ((with_reducible apply R.eq4); focus ((repeat' (first | with_reducible assumption | with_reducible apply hU | ((with_reducible apply SqT.of); with_reducible assumption) | ((with_reducible apply same_seqT); with_reducible assumption) | ((with_reducible apply kp_seqT); with_reducible assumption) | ((with_reducible apply Dw.same); with_reducible assumption))); done))
          | ((with_reducible apply R.eq3); focus ((repeat' (first | with_reducible assumption | with_reducible apply hU | ((with_reducible apply SqT.of); with_reducible assumption) | ((with_reducible apply same_seqT); with_reducible assumption) | ((with_reducible apply kp_seqT); with_reducible assumption) | ((with_reducible apply Dw.same); with_reducible assumption))); done))
          | ((with_reducible apply R.eq2); focus ((repeat' (first | with_reducible assumption | with_reducible apply hU | ((with_reducible apply SqT.of); with_reducible assumption) | ((with_reducible apply same_seqT); with_reducible assumption) | ((with_reducible apply kp_seqT); with_reducible assumption) | ((with_reducible apply Dw.same); with_reducible assumption))); done))
          | with_reducible apply uLawNext
          | with_reducible apply uLawWide
          | with_reducible apply uValueAt
          | with_reducible apply uIsSquare
          | ((with_reducible apply R.nw); intro HN tn sn ht)
          | with_reducible apply iteT
          | with_reducible apply iteF
          | with_reducible apply R.notT
          | with_reducible apply R.notF
          | ((with_reducible apply SqT.of); with_reducible assumption)
          | ((with_reducible apply SqL.of); with_reducible assumption)
          | ((with_reducible apply same_seqT); with_reducible assumption)
          | ((with_reducible apply sameB); with_reducible assumption)
          | ((with_reducible apply same_at); with_reducible assumption)
          | ((with_reducible apply kp_seqT); with_reducible assumption)
          | ((with_reducible apply Same.seq); with_reducible assumption)
          | ((with_reducible apply Kp.seqL); with_reducible assumption)
          | ((with_reducible apply fresh_ne); with_reducible assumption)
          | ((with_reducible apply Dw.same); with_reducible assumption)
          | ((with_reducible apply R.isEq); exact eq_true (by first | decide | omega))
          | ((with_reducible apply R.isLt); first | decide | omega)
          | ((with_reducible apply R.isLtI); first | decide | omega)
          | ((with_reducible apply R.isLeI); first | decide | omega)
          | ((with_reducible apply R.cdiv); exact rfl)
          | ((with_reducible apply R.cpow); exact rfl)
          | with_reducible apply R.cdivX
          | ((with_reducible apply R.isNe); omega)
          | with_reducible apply hU
          | ((with_reducible apply wayNF); first | exact rfl | exact ⟨rfl, rfl⟩ | exact ⟨rfl, rfl, rfl⟩ | exact ⟨rfl, rfl, rfl, rfl⟩)
          | with_reducible apply R.bm
          | ((with_reducible apply R.bmT); (focus ((first | with_reducible assumption | ((with_reducible apply same_at); with_reducible assumption) | ((with_reducible apply kp_at); with_reducible assumption)); done)))
          | with_reducible apply R.dput
          | with_reducible apply R.dget
          | with_reducible apply R.din
          | with_reducible apply R.dget2
          | with_reducible apply R.forE
          | with_reducible apply R.rng1
          | with_reducible apply R.rng2
          | with_reducible apply R.rg1
          | with_reducible apply R.rg2
          | with_reducible apply R.lcE
          | with_reducible apply R.itup
          | with_reducible apply R.ilst
          )
        refine kk _ _ [] sn nn ht ⟨.nil, fun t => ?_⟩ (by decide)
        constructor
        · intro h
          cases h
        · intro h
          refine absurd (Int.fmod_eq_zero_of_dvd ⟨-t, ?_⟩) z
          have : b * -t = -(b * t) := Int.mul_neg _ _
          have : (0 : Int) * t * t = 0 := by grind
          omega
    · have bd : Bd 6010 (b * b - 4 * a * c) := by apply bdm; (repeat' (first   | with_reducible apply R.var   | with_reducible apply R.gsE   | ((with_reducible apply R.gsN); (focus exact rfl))   | with_reducible apply R.lenS   | ((with_reducible apply R.lenB); exact rfl)   | ((with_reducible apply R.isEq); exact rfl)   | with_reducible apply R.op   | with_reducible apply R.i2   | with_reducible apply R.i0   | with_reducible apply R.con   | with_reducible apply R.cons   | with_reducible apply R.nil   | with_reducible apply R.gcons   | with_reducible apply R.gname   | ((with_reducible apply R.ixT); (focus ((repeat' (first | with_reducible assumption | with_reducible apply hU | ((with_reducible apply SqT.of); with_reducible assumption) | ((with_reducible apply same_seqT); with_reducible assumption) | ((with_reducible apply kp_seqT); with_reducible assumption) | ((with_reducible apply Dw.same); with_reducible assumption))); done)); exact rfl)   | ((with_reducible apply R.ixL); (focus ((repeat' (first | with_reducible assumption | ((with_reducible apply SqL.of); with_reducible assumption) | ((with_reducible apply Same.seq); with_reducible assumption) | ((with_reducible apply Kp.seqL); with_reducible assumption) | ((with_reducible apply fresh_ne); with_reducible assumption) | ((with_reducible apply Dw.same); with_reducible assumption))); done)); exact rfl)   | with_reducible assumption   | with_reducible apply Bd.mulW   | with_reducible apply Bd.mul   | with_reducible apply Bd.add   | with_reducible apply Bd.sub   | ((with_reducible apply Bd.l8); exact eq_true (by decide))   | ((with_reducible apply Bd.lit); exact eq_true (by decide))   | with_reducible apply Bd.neg   | with_reducible apply Bd.div   | with_reducible apply Bd.abs   | with_reducible apply Bd.mod   | with_reducible apply Bd.fdiv   | ((with_reducible apply Bd.om); omega)   | ((with_reducible apply R.isLe); first | decide | omega)   | with_reducible apply R.un   | with_reducible apply R.u1   | with_reducible apply R.tup   | with_reducible apply R.lst   | with_reducible apply R.call   | with_reducible apply R.callB   | with_reducible apply R.gtup   | with_reducible apply R.gnil   | with_reducible apply R.seq   | with_reducible apply R.asg   | with_reducible apply R.ret   | with_reducible apply R.brk   | with_reducible apply R.cont   | with_reducible apply R.next   | with_reducible apply R.drop   | with_reducible apply R.par   | with_reducible apply R.par2   | with_reducible apply R.ifs   | with_reducible apply R.tif   | with_reducible apply R.test   | with_reducible apply R.tb'   | with_reducible apply R.isbl   | with_reducible apply R.cmp   | with_reducible apply R.t2i   | with_reducible apply R.intp   | with_reducible apply R.and   | with_reducible apply R.or   | with_reducible apply R.not   | with_reducible apply R.andV   | with_reducible apply R.orV   | with_reducible apply R.notV   | with_reducible apply R.chain   | with_reducible apply R.tupL   | with_reducible apply R.lstL   | with_reducible apply R.cat   | with_reducible apply R.absI   | with_reducible apply R.intI   | with_reducible apply R.intB   | with_reducible apply R.eqS   | with_reducible apply R.eqBl   | with_reducible apply R.neBl   | with_reducible apply R.sl   | with_reducible apply R.noPart   | with_reducible apply R.part   | with_reducible apply R.isInt   | with_reducible apply R.slL   | with_reducible apply R.isiT   | with_reducible apply R.isiLst   | with_reducible apply R.nwT   | with_reducible apply R.nwL   | ((with_reducible apply R.mt); intro HN tn sn nn ht)   | ((with_reducible apply R.ml); intro HN tn sn nn ht)   | ((with_reducible apply R.isiTupS); focus ((repeat' (first | with_reducible assumption | with_reducible apply hU | ((with_reducible apply SqT.of); with_reducible assumption) | ((with_reducible apply same_seqT); with_reducible assumption) | ((with_reducible apply kp_seqT); with_reducible assumption) | ((with_reducible apply Dw.same); with_reducible assumption))); done))   | ((with_reducible apply R.ne4); focus ((repeat' (first | with_reducible assumption | with_reducible apply hU | ((with_reducible apply SqT.of); with_reducible assumption) | ((with_reducible apply same_seqT); with_reducible assumption) | ((with_reducible apply kp_seqT); with_reducible assumption) | ((with_reducible apply Dw.same); with_reducible assumption))); done))   | ((with_reducible apply R.ne3); focus ((repeat' (first | with_reducible assumption | with_reducible apply hU | ((with_reducible apply SqT.of); with_reducible assumption) | ((with_reducible apply same_seqT); with_reducible assumption) | ((with_reducible apply kp_seqT); with_reducible assumption) | ((with_reducible apply Dw.same); with_reducible assumption))); done))   | ((with_reducible apply R.ne2); focus ((repeat' (first | with_reducible assumption | with_reducible apply hU | ((with_reducible apply SqT.of); with_reducible assumption) | ((with_reducible apply same_seqT); with_reducible assumption) | ((with_reducible apply kp_seqT); with_reducible assumption) | ((with_reducible apply Dw.same); with_reducible assumption))); done))   | ((with_reducible apply R.eq4); focus ((repeat' (first | with_reducible assumption | with_reducible apply hU | ((with_reducible apply SqT.of); with_reducible assumption) | ((with_reducible apply same_seqT); with_reducible assumption) | ((with_reducible apply kp_seqT); with_reducible assumption) | ((with_reducible apply Dw.same); with_reducible assumption))); done))   | ((with_reducible apply R.eq3); focus ((repeat' (first | with_reducible assumption | with_reducible apply hU | ((with_reducible apply SqT.of); with_reducible assumption) | ((with_reducible apply same_seqT); with_reducible assumption) | ((with_reducible apply kp_seqT); with_reducible assumption) | ((with_reducible apply Dw.same); with_reducible assumption))); done))   | ((with_reducible apply R.eq2); focus ((repeat' (first | with_reducible assumption | with_reducible apply hU | ((with_reducible apply SqT.of); with_reducible assumption) | ((with_reducible apply same_seqT); with_reducible assumption) | ((with_reducible apply kp_seqT); with_reducible assumption) | ((with_reducible apply Dw.same); with_reducible assumption))); done))   | with_reducible apply uLawNext   | with_reducible apply uLawWide   | with_reducible apply uValueAt   | with_reducible apply uIsSquare   | ((with_reducible apply R.nw); intro HN tn sn ht)   | with_reducible apply iteT   | with_reducible apply iteF   | with_reducible apply R.notT   | with_reducible apply R.notF   | ((with_reducible apply SqT.of); with_reducible assumption)   | ((with_reducible apply SqL.of); with_reducible assumption)   | ((with_reducible apply same_seqT); with_reducible assumption)   | ((with_reducible apply sameB); with_reducible assumption)   | ((with_reducible apply same_at); with_reducible assumption)   | ((with_reducible apply kp_seqT); with_reducible assumption)   | ((with_reducible apply Same.seq); with_reducible assumption)   | ((with_reducible apply Kp.seqL); with_reducible assumption)   | ((with_reducible apply fresh_ne); with_reducible assumption)   | ((with_reducible apply Dw.same); with_reducible assumption)   | ((with_reducible apply R.isEq); exact eq_true (by first | decide | omega))   | ((with_reducible apply R.isLt); first | decide | omega)   | ((with_reducible apply R.isLtI); first | decide | omega)   | ((with_reducible apply R.isLeI); first | decide | omega)   | ((with_reducible apply R.cdiv); exact rfl)   | ((with_reducible apply R.cpow); exact rfl)   | with_reducible apply R.cdivX   | ((with_reducible apply R.isNe); omega)   | with_reducible apply hU   | ((with_reducible apply wayNF); first | exact rfl | exact ⟨rfl, rfl⟩ | exact ⟨rfl, rfl, rfl⟩ | exact ⟨rfl, rfl, rfl, rfl⟩)   | with_reducible apply R.bm   | ((with_reducible apply R.bmT); (focus ((first | with_reducible assumption | ((with_reducible apply same_at); with_reducible assumption) | ((with_reducible apply kp_at); with_reducible assumption)); done)))   | with_reducible apply R.dput   | with_reducible apply R.dget   | with_reducible apply R.din   | with_reducible apply R.dget2   | with_reducible apply R.forE   | with_reducible apply R.rng1   | with_reducible apply R.rng2   | with_reducible apply R.rg1   | with_reducible apply R.rg2   | with_reducible apply R.lcE   | with_reducible apply R.itup   | with_reducible apply R.ilst   ))
      repeat' (first
        | with_reducible apply R.var
        | with_reducible apply R.gsE
        | ((with_reducible apply R.gsN); (focus exact rfl))
        | with_reducible apply R.lenS
        | ((with_reducible apply R.lenB); exact rfl)
        | ((with_reducible apply R.isEq); exact rfl)
        | with_reducible apply R.op
        | with_reducible apply R.i2
        | with_reducible apply R.i0
        | with_reducible apply R.con
        | with_reducible apply R.cons
        | with_reducible apply R.nil
        | with_reducible apply R.gcons
        | with_reducible apply R.gname
        | ((with_reducible apply R.ixT); (focus ((repeat' (first | with_reducible assumption | with_reducible apply hU | ((with_reducible apply SqT.of); with_reducible assumption) | ((with_reducible apply same_seqT); with_reducible assumption) | ((with_reducible apply kp_seqT); with_reducible assumption) | ((with_reducible apply Dw.same); with_reducible assumption))); done)); exact rfl)
        | ((with_reducible apply R.ixL); (focus ((repeat' (first | with_reducible assumption | ((with_reducible apply SqL.of); with_reducible assumption) | ((with_reducible apply Same.seq); with_reducible assumption) | ((with_reducible apply Kp.seqL); with_reducible assumption) | ((with_reducible apply fresh_ne); with_reducible assumption) | ((with_reducible apply Dw.same); with_reducible assumption))); done)); exact rfl)
        | with_reducible assumption
        | with_reducible apply Bd.mulW
        | with_reducible apply Bd.mul
        | with_reducible apply Bd.add
        | with_reducible apply Bd.sub
        | ((with_reducible apply Bd.l8); exact eq_true (by decide))
        | ((with_reducible apply Bd.lit); exact eq_true (by decide))
        | with_reducible apply Bd.neg
        | with_reducible apply Bd.div
        | with_reducible apply Bd.abs
        | with_reducible apply Bd.mod
        | with_reducible apply Bd.fdiv
        | ((with_reducible apply Bd.om); omega)
        | ((with_reducible apply R.isLe); first | decide | omega)
        | with_reducible apply R.un
        | with_reducible apply R.u1
        | with_reducible apply R.tup
        | with_reducible apply R.lst
        | with_reducible apply R.call
        | with_reducible apply R.callB
        | with_reducible apply R.gtup
        | with_reducible apply R.gnil
        | with_reducible apply R.seq
        | with_reducible apply R.asg
        | with_reducible apply R.ret
        | with_reducible apply R.brk
        | with_reducible apply R.cont
        | with_reducible apply R.next
        | with_reducible apply R.drop
        | with_reducible apply R.par
        | with_reducible apply R.par2
        | with_reducible apply R.ifs
        | with_reducible apply R.tif
        | with_reducible apply R.test
        | with_reducible apply R.tb'
        | with_reducible apply R.isbl
        | with_reducible apply R.cmp
        | with_reducible apply R.t2i
        | with_reducible apply R.intp
        | with_reducible apply R.and
        | with_reducible apply R.or
        | with_reducible apply R.not
        | with_reducible apply R.andV
        | with_reducible apply R.orV
        | with_reducible apply R.notV
        | with_reducible apply R.chain
        | with_reducible apply R.tupL
        | with_reducible apply R.lstL
        | with_reducible apply R.cat
        | with_reducible apply R.absI
        | with_reducible apply R.intI
        | with_reducible apply R.intB
        | with_reducible apply R.eqS
        | with_reducible apply R.eqBl
        | with_reducible apply R.neBl
        | with_reducible apply R.sl
        | with_reducible apply R.noPart
        | with_reducible apply R.part
        | with_reducible apply R.isInt
        | with_reducible apply R.slL
        | with_reducible apply R.isiT
        | with_reducible apply R.isiLst
        | with_reducible apply R.nwT
        | with_reducible apply R.nwL
        | ((with_reducible apply R.mt); intro HN tn sn nn ht)
        | ((with_reducible apply R.ml); intro HN tn sn nn ht)
        | ((with_reducible apply R.isiTupS); focus ((repeat' (first | with_reducible assumption | with_reducible apply hU | ((with_reducible apply SqT.of); with_reducible assumption) | ((with_reducible apply same_seqT); with_reducible assumption) | ((with_reducible apply kp_seqT); with_reducible assumption) | ((with_reducible apply Dw.same); with_reducible assumption))); done))
        | ((with_reducible apply R.ne4); focus ((repeat' (first | with_reducible assumption | with_reducible apply hU | ((with_reducible apply SqT.of); with_reducible assumption) | ((with_reducible apply same_seqT); with_reducible assumption) | ((with_reducible apply kp_seqT); with_reducible assumption) | ((with_reducible apply Dw.same); with_reducible assumption))); done))
        | ((with_reducible apply R.ne3); focus ((repeat' (first | with_reducible assumption | with_reducible apply hU | ((with_reducible apply SqT.of); with_reducible assumption) | ((with_reducible apply same_seqT); with_reducible assumption) | ((with_reducible apply kp_seqT); with_reducible assumption) | ((with_reducible apply Dw.same); with_reducible assumption))); done))
        | ((with_reducible apply R.ne2); focus ((repeat' (first | with_reducible assumption | with_reducible apply hU | ((with_reducible apply SqT.of); with_reducible assumption) | ((with_reducible apply same_seqT); with_reducible assumption) | ((with_reducible apply kp_seqT); with_reducible assumption) | ((with_reducible apply Dw.same); with_reducible assumption))); done))
        | ((with_reducible apply R.eq4); focus ((repeat' (first | with_reducible assumption | with_reducible apply hU | ((with_reducible apply SqT.of); with_reducible assumption) | ((with_reducible apply same_seqT); with_reducible assumption) | ((with_reducible apply kp_seqT); with_reducible assumption) | ((with_reducible apply Dw.same); with_reducible assumption))); done))
        | ((with_reducible apply R.eq3); focus ((repeat' (first | with_reducible assumption | with_reducible apply hU | ((with_reducible apply SqT.of); with_reducible assumption) | ((with_reducible apply same_seqT); with_reducible assumption) | ((with_reducible apply kp_seqT); with_reducible assumption) | ((with_reducible apply Dw.same); with_reducible assumption))); done))
        | ((with_reducible apply R.eq2); focus ((repeat' (first | with_reducible assumption | with_reducible apply hU | ((with_reducible apply SqT.of); with_reducible assumption) | ((with_reducible apply same_seqT); with_reducible assumption) | ((with_reducible apply kp_seqT); with_reducible assumption) | ((with_reducible apply Dw.same); with_reducible assumption))); done))
        | with_reducible apply uLawNext
        | with_reducible apply uLawWide
        | with_reducible apply uValueAt
        | with_reducible apply uIsSquare
        | ((with_reducible apply R.nw); intro HN tn sn ht)
        | with_reducible apply iteT
        | with_reducible apply iteF
        | with_reducible apply R.notT
        | with_reducible apply R.notF
        | ((with_reducible apply SqT.of); with_reducible assumption)
        | ((with_reducible apply SqL.of); with_reducible assumption)
        | ((with_reducible apply same_seqT); with_reducible assumption)
        | ((with_reducible apply sameB); with_reducible assumption)
        | ((with_reducible apply same_at); with_reducible assumption)
        | ((with_reducible apply kp_seqT); with_reducible assumption)
        | ((with_reducible apply Same.seq); with_reducible assumption)
        | ((with_reducible apply Kp.seqL); with_reducible assumption)
        | ((with_reducible apply fresh_ne); with_reducible assumption)
        | ((with_reducible apply Dw.same); with_reducible assumption)
        | ((with_reducible apply R.isEq); exact eq_true (by first | decide | omega))
        | ((with_reducible apply R.isLt); first | decide | omega)
        | ((with_reducible apply R.isLtI); first | decide | omega)
        | ((with_reducible apply R.isLeI); first | decide | omega)
        | ((with_reducible apply R.cdiv); exact rfl)
        | ((with_reducible apply R.cpow); exact rfl)
        | with_reducible apply R.cdivX
        | ((with_reducible apply R.isNe); omega)
        | with_reducible apply hU
        | ((with_reducible apply wayNF); first | exact rfl | exact ⟨rfl, rfl⟩ | exact ⟨rfl, rfl, rfl⟩ | exact ⟨rfl, rfl, rfl, rfl⟩)
        | with_reducible apply R.bm
        | ((with_reducible apply R.bmT); (focus ((first | with_reducible assumption | ((with_reducible apply same_at); with_reducible assumption) | ((with_reducible apply kp_at); with_reducible assumption)); done)))
        | with_reducible apply R.dput
        | with_reducible apply R.dget
        | with_reducible apply R.din
        | with_reducible apply R.dget2
        | with_reducible apply R.forE
        | with_reducible apply R.rng1
        | with_reducible apply R.rng2
        | with_reducible apply R.rg1
        | with_reducible apply R.rg2
        | with_reducible apply R.lcE
        | with_reducible apply R.itup
        | with_reducible apply R.ilst
        )
      by_cases hs : 0 ≤ b * b - 4 * a * c ∧ rootI (b * b - 4 * a * c) * rootI (b * b - 4 * a * c) = b * b - 4 * a * c
      · rw [decide_eq_true hs]
        repeat' (first
          | with_reducible apply R.var
          | with_reducible apply R.gsE
          | ((with_reducible apply R.gsN); (focus exact rfl))
          | with_reducible apply R.lenS
          | ((with_reducible apply R.lenB); exact rfl)
          | ((with_reducible apply R.isEq); exact rfl)
          | with_reducible apply R.op
          | with_reducible apply R.i2
          | with_reducible apply R.i0
          | with_reducible apply R.con
          | with_reducible apply R.cons
          | with_reducible apply R.nil
          | with_reducible apply R.gcons
          | with_reducible apply R.gname
          | ((with_reducible apply R.ixT); (focus ((repeat' (first | with_reducible assumption | with_reducible apply hU | ((with_reducible apply SqT.of); with_reducible assumption) | ((with_reducible apply same_seqT); with_reducible assumption) | ((with_reducible apply kp_seqT); with_reducible assumption) | ((with_reducible apply Dw.same); with_reducible assumption))); done)); exact rfl)
          | ((with_reducible apply R.ixL); (focus ((repeat' (first | with_reducible assumption | ((with_reducible apply SqL.of); with_reducible assumption) | ((with_reducible apply Same.seq); with_reducible assumption) | ((with_reducible apply Kp.seqL); with_reducible assumption) | ((with_reducible apply fresh_ne); with_reducible assumption) | ((with_reducible apply Dw.same); with_reducible assumption))); done)); exact rfl)
          | with_reducible assumption
          | with_reducible apply Bd.mulW
          | with_reducible apply Bd.mul
          | with_reducible apply Bd.add
          | with_reducible apply Bd.sub
          | ((with_reducible apply Bd.l8); exact eq_true (by decide))
          | ((with_reducible apply Bd.lit); exact eq_true (by decide))
          | with_reducible apply Bd.neg
          | with_reducible apply Bd.div
          | with_reducible apply Bd.abs
          | with_reducible apply Bd.mod
          | with_reducible apply Bd.fdiv
          | ((with_reducible apply Bd.om); omega)
          | ((with_reducible apply R.isLe); first | decide | omega)
          | with_reducible apply R.un
          | with_reducible apply R.u1
          | with_reducible apply R.tup
          | with_reducible apply R.lst
          | with_reducible apply R.call
          | with_reducible apply R.callB
          | with_reducible apply R.gtup
          | with_reducible apply R.gnil
          | with_reducible apply R.seq
          | with_reducible apply R.asg
          | with_reducible apply R.ret
          | with_reducible apply R.brk
          | with_reducible apply R.cont
          | with_reducible apply R.next
          | with_reducible apply R.drop
          | with_reducible apply R.par
          | with_reducible apply R.par2
          | with_reducible apply R.ifs
          | with_reducible apply R.tif
          | with_reducible apply R.test
          | with_reducible apply R.tb'
          | with_reducible apply R.isbl
          | with_reducible apply R.cmp
          | with_reducible apply R.t2i
          | with_reducible apply R.intp
          | with_reducible apply R.and
          | with_reducible apply R.or
          | with_reducible apply R.not
          | with_reducible apply R.andV
          | with_reducible apply R.orV
          | with_reducible apply R.notV
          | with_reducible apply R.chain
          | with_reducible apply R.tupL
          | with_reducible apply R.lstL
          | with_reducible apply R.cat
          | with_reducible apply R.absI
          | with_reducible apply R.intI
          | with_reducible apply R.intB
          | with_reducible apply R.eqS
          | with_reducible apply R.eqBl
          | with_reducible apply R.neBl
          | with_reducible apply R.sl
          | with_reducible apply R.noPart
          | with_reducible apply R.part
          | with_reducible apply R.isInt
          | with_reducible apply R.slL
          | with_reducible apply R.isiT
          | with_reducible apply R.isiLst
          | with_reducible apply R.nwT
          | with_reducible apply R.nwL
          | ((with_reducible apply R.mt); intro HN tn sn nn ht)
          | ((with_reducible apply R.ml); intro HN tn sn nn ht)
          | ((with_reducible apply R.isiTupS); focus ((repeat' (first | with_reducible assumption | with_reducible apply hU | ((with_reducible apply SqT.of); with_reducible assumption) | ((with_reducible apply same_seqT); with_reducible assumption) | ((with_reducible apply kp_seqT); with_reducible assumption) | ((with_reducible apply Dw.same); with_reducible assumption))); done))
          | ((with_reducible apply R.ne4); focus ((repeat' (first | with_reducible assumption | with_reducible apply hU | ((with_reducible apply SqT.of); with_reducible assumption) | ((with_reducible apply same_seqT); with_reducible assumption) | ((with_reducible apply kp_seqT); with_reducible assumption) | ((with_reducible apply Dw.same); with_reducible assumption))); done))
          | ((with_reducible apply R.ne3); focus ((repeat' (first | with_reducible assumption | with_reducible apply hU | ((with_reducible apply SqT.of); with_reducible assumption) | ((with_reducible apply same_seqT); with_reducible assumption) | ((with_reducible apply kp_seqT); with_reducible assumption) | ((with_reducible apply Dw.same); with_reducible assumption))); done))
          | ((with_reducible apply R.ne2); focus ((repeat' (first | with_reducible assumption | with_reducible apply hU | ((with_reducible apply SqT.of); with_reducible assumption) | ((with_reducible apply same_seqT); with_reducible assumption) | ((with_reducible apply kp_seqT); with_reducible assumption) | ((with_reducible apply Dw.same); with_reducible assumption))); done))
          | ((with_reducible apply R.eq4); focus ((repeat' (first | with_reducible assumption | with_reducible apply hU | ((with_reducible apply SqT.of); with_reducible assumption) | ((with_reducible apply same_seqT); with_reducible assumption) | ((with_reducible apply kp_seqT); with_reducible assumption) | ((with_reducible apply Dw.same); with_reducible assumption))); done))
          | ((with_reducible apply R.eq3); focus ((repeat' (first | with_reducible assumption | with_reducible apply hU | ((with_reducible apply SqT.of); with_reducible assumption) | ((with_reducible apply same_seqT); with_reducible assumption) | ((with_reducible apply kp_seqT); with_reducible assumption) | ((with_reducible apply Dw.same); with_reducible assumption))); done))
          | ((with_reducible apply R.eq2); focus ((repeat' (first | with_reducible assumption | with_reducible apply hU | ((with_reducible apply SqT.of); with_reducible assumption) | ((with_reducible apply same_seqT); with_reducible assumption) | ((with_reducible apply kp_seqT); with_reducible assumption) | ((with_reducible apply Dw.same); with_reducible assumption))); done))
          | with_reducible apply uLawNext
          | with_reducible apply uLawWide
          | with_reducible apply uValueAt
          | with_reducible apply uIsSquare
          | ((with_reducible apply R.nw); intro HN tn sn ht)
          | with_reducible apply iteT
          | with_reducible apply iteF
          | with_reducible apply R.notT
          | with_reducible apply R.notF
          | ((with_reducible apply SqT.of); with_reducible assumption)
          | ((with_reducible apply SqL.of); with_reducible assumption)
          | ((with_reducible apply same_seqT); with_reducible assumption)
          | ((with_reducible apply sameB); with_reducible assumption)
          | ((with_reducible apply same_at); with_reducible assumption)
          | ((with_reducible apply kp_seqT); with_reducible assumption)
          | ((with_reducible apply Same.seq); with_reducible assumption)
          | ((with_reducible apply Kp.seqL); with_reducible assumption)
          | ((with_reducible apply fresh_ne); with_reducible assumption)
          | ((with_reducible apply Dw.same); with_reducible assumption)
          | ((with_reducible apply R.isEq); exact eq_true (by first | decide | omega))
          | ((with_reducible apply R.isLt); first | decide | omega)
          | ((with_reducible apply R.isLtI); first | decide | omega)
          | ((with_reducible apply R.isLeI); first | decide | omega)
          | ((with_reducible apply R.cdiv); exact rfl)
          | ((with_reducible apply R.cpow); exact rfl)
          | with_reducible apply R.cdivX
          | ((with_reducible apply R.isNe); omega)
          | with_reducible apply hU
          | ((with_reducible apply wayNF); first | exact rfl | exact ⟨rfl, rfl⟩ | exact ⟨rfl, rfl, rfl⟩ | exact ⟨rfl, rfl, rfl, rfl⟩)
          | with_reducible apply R.bm
          | ((with_reducible apply R.bmT); (focus ((first | with_reducible assumption | ((with_reducible apply same_at); with_reducible assumption) | ((with_reducible apply kp_at); with_reducible assumption)); done)))
          | with_reducible apply R.dput
          | with_reducible apply R.dget
          | with_reducible apply R.din
          | with_reducible apply R.dget2
          | with_reducible apply R.forE
          | with_reducible apply R.rng1
          | with_reducible apply R.rng2
          | with_reducible apply R.rg1
          | with_reducible apply R.rg2
          | with_reducible apply R.lcE
          | with_reducible apply R.itup
          | with_reducible apply R.ilst
          )
        refine ⟨_, rfl, hs.1, bd.mono (by decide), ?_⟩
        have r0 := (rootI_spec hs.1).1
        have br : Bd 6010 (rootI (b * b - 4 * a * c)) := rootI_lt hs.1 bd
        have hr := hs.2
        have hq := fun t => quad_iff (t := t) z r0 hr
        have a20 : 2 * a ≠ 0 := by omega
        clear hs
        generalize rootI (b * b - 4 * a * c) = r at *
        have fin : ∀ {H' : Hp} {L : Addr} {ns : List Int}, Same H H' → H L = none → H' L = some (.lst (ns.map V.int)) → ns.Perm (((topsQ b r).filter (tpP a)).map (tpF a)) → ns.Pairwise (· ≤ ·) → Q (.ref L) H' := by
          intro H' L ns s n h pm ps
          refine kk _ _ ns s n h ⟨le_nodup_lt ps (pm.nodup_iff.mpr (tops_nodup z)), fun t => ?_⟩ ?_
          · rw [pm.mem_iff, tops_mem z, hq]
          · rw [pm.length_eq, List.length_map]
            refine Nat.le_trans (List.length_filter_le _ _) ?_
            unfold topsQ
            split <;> simp
        repeat' (first
          | with_reducible apply R.var
          | with_reducible apply R.gsE
          | ((with_reducible apply R.gsN); (focus exact rfl))
          | with_reducible apply R.lenS
          | ((with_reducible apply R.lenB); exact rfl)
          | ((with_reducible apply R.isEq); exact rfl)
          | with_reducible apply R.op
          | with_reducible apply R.i2
          | with_reducible apply R.i0
          | with_reducible apply R.con
          | with_reducible apply R.cons
          | with_reducible apply R.nil
          | with_reducible apply R.gcons
          | with_reducible apply R.gname
          | ((with_reducible apply R.ixT); (focus ((repeat' (first | with_reducible assumption | with_reducible apply hU | ((with_reducible apply SqT.of); with_reducible assumption) | ((with_reducible apply same_seqT); with_reducible assumption) | ((with_reducible apply kp_seqT); with_reducible assumption) | ((with_reducible apply Dw.same); with_reducible assumption))); done)); exact rfl)
          | ((with_reducible apply R.ixL); (focus ((repeat' (first | with_reducible assumption | ((with_reducible apply SqL.of); with_reducible assumption) | ((with_reducible apply Same.seq); with_reducible assumption) | ((with_reducible apply Kp.seqL); with_reducible assumption) | ((with_reducible apply fresh_ne); with_reducible assumption) | ((with_reducible apply Dw.same); with_reducible assumption))); done)); exact rfl)
          | with_reducible assumption
          | with_reducible apply Bd.mulW
          | with_reducible apply Bd.mul
          | with_reducible apply Bd.add
          | with_reducible apply Bd.sub
          | ((with_reducible apply Bd.l8); exact eq_true (by decide))
          | ((with_reducible apply Bd.lit); exact eq_true (by decide))
          | with_reducible apply Bd.neg
          | with_reducible apply Bd.div
          | with_reducible apply Bd.abs
          | with_reducible apply Bd.mod
          | with_reducible apply Bd.fdiv
          | ((with_reducible apply Bd.om); omega)
          | ((with_reducible apply R.isLe); first | decide | omega)
          | with_reducible apply R.un
          | with_reducible apply R.u1
          | with_reducible apply R.tup
          | with_reducible apply R.lst
          | with_reducible apply R.call
          | with_reducible apply R.callB
          | with_reducible apply R.gtup
          | with_reducible apply R.gnil
          | with_reducible apply R.seq
          | with_reducible apply R.asg
          | with_reducible apply R.ret
          | with_reducible apply R.brk
          | with_reducible apply R.cont
          | with_reducible apply R.next
          | with_reducible apply R.drop
          | with_reducible apply R.par
          | with_reducible apply R.par2
          | with_reducible apply R.ifs
          | with_reducible apply R.tif
          | with_reducible apply R.test
          | with_reducible apply R.tb'
          | with_reducible apply R.isbl
          | with_reducible apply R.cmp
          | with_reducible apply R.t2i
          | with_reducible apply R.intp
          | with_reducible apply R.and
          | with_reducible apply R.or
          | with_reducible apply R.not
          | with_reducible apply R.andV
          | with_reducible apply R.orV
          | with_reducible apply R.notV
          | with_reducible apply R.chain
          | with_reducible apply R.tupL
          | with_reducible apply R.lstL
          | with_reducible apply R.cat
          | with_reducible apply R.absI
          | with_reducible apply R.intI
          | with_reducible apply R.intB
          | with_reducible apply R.eqS
          | with_reducible apply R.eqBl
          | with_reducible apply R.neBl
          | with_reducible apply R.sl
          | with_reducible apply R.noPart
          | with_reducible apply R.part
          | with_reducible apply R.isInt
          | with_reducible apply R.slL
          | with_reducible apply R.isiT
          | with_reducible apply R.isiLst
          | with_reducible apply R.nwT
          | with_reducible apply R.nwL
          | ((with_reducible apply R.mt); intro HN tn sn nn ht)
          | ((with_reducible apply R.ml); intro HN tn sn nn ht)
          | ((with_reducible apply R.isiTupS); focus ((repeat' (first | with_reducible assumption | with_reducible apply hU | ((with_reducible apply SqT.of); with_reducible assumption) | ((with_reducible apply same_seqT); with_reducible assumption) | ((with_reducible apply kp_seqT); with_reducible assumption) | ((with_reducible apply Dw.same); with_reducible assumption))); done))
          | ((with_reducible apply R.ne4); focus ((repeat' (first | with_reducible assumption | with_reducible apply hU | ((with_reducible apply SqT.of); with_reducible assumption) | ((with_reducible apply same_seqT); with_reducible assumption) | ((with_reducible apply kp_seqT); with_reducible assumption) | ((with_reducible apply Dw.same); with_reducible assumption))); done))
          | ((with_reducible apply R.ne3); focus ((repeat' (first | with_reducible assumption | with_reducible apply hU | ((with_reducible apply SqT.of); with_reducible assumption) | ((with_reducible apply same_seqT); with_reducible assumption) | ((with_reducible apply kp_seqT); with_reducible assumption) | ((with_reducible apply Dw.same); with_reducible assumption))); done))
          | ((with_reducible apply R.ne2); focus ((repeat' (first | with_reducible assumption | with_reducible apply hU | ((with_reducible apply SqT.of); with_reducible assumption) | ((with_reducible apply same_seqT); with_reducible assumption) | ((with_reducible apply kp_seqT); with_reducible assumption) | ((with_reducible apply Dw.same); with_reducible assumption))); done))
          | ((with_reducible apply R.eq4); focus ((repeat' (first | with_reducible assumption | with_reducible apply hU | ((with_reducible apply SqT.of); with_reducible assumption) | ((with_reducible apply same_seqT); with_reducible assumption) | ((with_reducible apply kp_seqT); with_reducible assumption) | ((with_reducible apply Dw.same); with_reducible assumption))); done))
          | ((with_reducible apply R.eq3); focus ((repeat' (first | with_reducible assumption | with_reducible apply hU | ((with_reducible apply SqT.of); with_reducible assumption) | ((with_reducible apply same_seqT); with_reducible assumption) | ((with_reducible apply kp_seqT); with_reducible assumption) | ((with_reducible apply Dw.same); with_reducible assumption))); done))
          | ((with_reducible apply R.eq2); focus ((repeat' (first | with_reducible assumption | with_reducible apply hU | ((with_reducible apply SqT.of); with_reducible assumption) | ((with_reducible apply same_seqT); with_reducible assumption) | ((with_reducible apply kp_seqT); with_reducible assumption) | ((with_reducible apply Dw.same); with_reducible assumption))); done))
          | with_reducible apply uLawNext
          | with_reducible apply uLawWide
          | with_reducible apply uValueAt
          | with_reducible apply uIsSquare
          | ((with_reducible apply R.nw); intro HN tn sn ht)
          | with_reducible apply iteT
          | with_reducible apply iteF
          | with_reducible apply R.notT
          | with_reducible apply R.notF
          | ((with_reducible apply SqT.of); with_reducible assumption)
          | ((with_reducible apply SqL.of); with_reducible assumption)
          | ((with_reducible apply same_seqT); with_reducible assumption)
          | ((with_reducible apply sameB); with_reducible assumption)
          | ((with_reducible apply same_at); with_reducible assumption)
          | ((with_reducible apply kp_seqT); with_reducible assumption)
          | ((with_reducible apply Same.seq); with_reducible assumption)
          | ((with_reducible apply Kp.seqL); with_reducible assumption)
          | ((with_reducible apply fresh_ne); with_reducible assumption)
          | ((with_reducible apply Dw.same); with_reducible assumption)
          | ((with_reducible apply R.isEq); exact eq_true (by first | decide | omega))
          | ((with_reducible apply R.isLt); first | decide | omega)
          | ((with_reducible apply R.isLtI); first | decide | omega)
          | ((with_reducible apply R.isLeI); first | decide | omega)
          | ((with_reducible apply R.cdiv); exact rfl)
          | ((with_reducible apply R.cpow); exact rfl)
          | with_reducible apply R.cdivX
          | ((with_reducible apply R.isNe); omega)
          | with_reducible apply hU
          | ((with_reducible apply wayNF); first | exact rfl | exact ⟨rfl, rfl⟩ | exact ⟨rfl, rfl, rfl⟩ | exact ⟨rfl, rfl, rfl, rfl⟩)
          | with_reducible apply R.bm
          | ((with_reducible apply R.bmT); (focus ((first | with_reducible assumption | ((with_reducible apply same_at); with_reducible assumption) | ((with_reducible apply kp_at); with_reducible assumption)); done)))
          | with_reducible apply R.dput
          | with_reducible apply R.dget
          | with_reducible apply R.din
          | with_reducible apply R.dget2
          | with_reducible apply R.forE
          | with_reducible apply R.rng1
          | with_reducible apply R.rng2
          | with_reducible apply R.rg1
          | with_reducible apply R.rg2
          | with_reducible apply R.lcE
          | with_reducible apply R.itup
          | with_reducible apply R.ilst
          )
        refine way2 (fun y => ?_) (fun y => ?_)
        · have et : topsQ b r = [-b] := by unfold topsQ; rw [if_pos y]
          repeat' (first
            | with_reducible apply R.var
            | with_reducible apply R.gsE
            | ((with_reducible apply R.gsN); (focus exact rfl))
            | with_reducible apply R.lenS
            | ((with_reducible apply R.lenB); exact rfl)
            | ((with_reducible apply R.isEq); exact rfl)
            | with_reducible apply R.op
            | with_reducible apply R.i2
            | with_reducible apply R.i0
            | with_reducible apply R.con
            | with_reducible apply R.cons
            | with_reducible apply R.nil
            | with_reducible apply R.gcons
            | with_reducible apply R.gname
            | ((with_reducible apply R.ixT); (focus ((repeat' (first | with_reducible assumption | with_reducible apply hU | ((with_reducible apply SqT.of); with_reducible assumption) | ((with_reducible apply same_seqT); with_reducible assumption) | ((with_reducible apply kp_seqT); with_reducible assumption) | ((with_reducible apply Dw.same); with_reducible assumption))); done)); exact rfl)
            | ((with_reducible apply R.ixL); (focus ((repeat' (first | with_reducible assumption | ((with_reducible apply SqL.of); with_reducible assumption) | ((with_reducible apply Same.seq); with_reducible assumption) | ((with_reducible apply Kp.seqL); with_reducible assumption) | ((with_reducible apply fresh_ne); with_reducible assumption) | ((with_reducible apply Dw.same); with_reducible assumption))); done)); exact rfl)
            | with_reducible assumption
            | with_reducible apply Bd.mulW
            | with_reducible apply Bd.mul
            | with_reducible apply Bd.add
            | with_reducible apply Bd.sub
            | ((with_reducible apply Bd.l8); exact eq_true (by decide))
            | ((with_reducible apply Bd.lit); exact eq_true (by decide))
            | with_reducible apply Bd.neg
            | with_reducible apply Bd.div
            | with_reducible apply Bd.abs
            | with_reducible apply Bd.mod
            | with_reducible apply Bd.fdiv
            | ((with_reducible apply Bd.om); omega)
            | ((with_reducible apply R.isLe); first | decide | omega)
            | with_reducible apply R.un
            | with_reducible apply R.u1
            | with_reducible apply R.tup
            | with_reducible apply R.lst
            | with_reducible apply R.call
            | with_reducible apply R.callB
            | with_reducible apply R.gtup
            | with_reducible apply R.gnil
            | with_reducible apply R.seq
            | with_reducible apply R.asg
            | with_reducible apply R.ret
            | with_reducible apply R.brk
            | with_reducible apply R.cont
            | with_reducible apply R.next
            | with_reducible apply R.drop
            | with_reducible apply R.par
            | with_reducible apply R.par2
            | with_reducible apply R.ifs
            | with_reducible apply R.tif
            | with_reducible apply R.test
            | with_reducible apply R.tb'
            | with_reducible apply R.isbl
            | with_reducible apply R.cmp
            | with_reducible apply R.t2i
            | with_reducible apply R.intp
            | with_reducible apply R.and
            | with_reducible apply R.or
            | with_reducible apply R.not
            | with_reducible apply R.andV
            | with_reducible apply R.orV
            | with_reducible apply R.notV
            | with_reducible apply R.chain
            | with_reducible apply R.tupL
            | with_reducible apply R.lstL
            | with_reducible apply R.cat
            | with_reducible apply R.absI
            | with_reducible apply R.intI
            | with_reducible apply R.intB
            | with_reducible apply R.eqS
            | with_reducible apply R.eqBl
            | with_reducible apply R.neBl
            | with_reducible apply R.sl
            | with_reducible apply R.noPart
            | with_reducible apply R.part
            | with_reducible apply R.isInt
            | with_reducible apply R.slL
            | with_reducible apply R.isiT
            | with_reducible apply R.isiLst
            | with_reducible apply R.nwT
            | with_reducible apply R.nwL
            | ((with_reducible apply R.mt); intro HN tn sn nn ht)
            | ((with_reducible apply R.ml); intro HN tn sn nn ht)
            | ((with_reducible apply R.isiTupS); focus ((repeat' (first | with_reducible assumption | with_reducible apply hU | ((with_reducible apply SqT.of); with_reducible assumption) | ((with_reducible apply same_seqT); with_reducible assumption) | ((with_reducible apply kp_seqT); with_reducible assumption) | ((with_reducible apply Dw.same); with_reducible assumption))); done))
            | ((with_reducible apply R.ne4); focus ((repeat' (first | with_reducible assumption | with_reducible apply hU | ((with_reducible apply SqT.of); with_reducible assumption) | ((with_reducible apply same_seqT); with_reducible assumption) | ((with_reducible apply kp_seqT); with_reducible assumption) | ((with_reducible apply Dw.same); with_reducible assumption))); done))
            | ((with_reducible apply R.ne3); focus ((repeat' (first | with_reducible assumption | with_reducible apply hU | ((with_reducible apply SqT.of); with_reducible assumption) | ((with_reducible apply same_seqT); with_reducible assumption) | ((with_reducible apply kp_seqT); with_reducible assumption) | ((with_reducible apply Dw.same); with_reducible assumption))); done))
            | ((with_reducible apply R.ne2); focus ((repeat' (first | with_reducible assumption | with_reducible apply hU | ((with_reducible apply SqT.of); with_reducible assumption) | ((with_reducible apply same_seqT); with_reducible assumption) | ((with_reducible apply kp_seqT); with_reducible assumption) | ((with_reducible apply Dw.same); with_reducible assumption))); done))
            | ((with_reducible apply R.eq4); focus ((repeat' (first | with_reducible assumption | with_reducible apply hU | ((with_reducible apply SqT.of); with_reducible assumption) | ((with_reducible apply same_seqT); with_reducible assumption) | ((with_reducible apply kp_seqT); with_reducible assumption) | ((with_reducible apply Dw.same); with_reducible assumption))); done))
            | ((with_reducible apply R.eq3); focus ((repeat' (first | with_reducible assumption | with_reducible apply hU | ((with_reducible apply SqT.of); with_reducible assumption) | ((with_reducible apply same_seqT); with_reducible assumption) | ((with_reducible apply kp_seqT); with_reducible assumption) | ((with_reducible apply Dw.same); with_reducible assumption))); done))
            | ((with_reducible apply R.eq2); focus ((repeat' (first | with_reducible assumption | with_reducible apply hU | ((with_reducible apply SqT.of); with_reducible assumption) | ((with_reducible apply same_seqT); with_reducible assumption) | ((with_reducible apply kp_seqT); with_reducible assumption) | ((with_reducible apply Dw.same); with_reducible assumption))); done))
            | with_reducible apply uLawNext
            | with_reducible apply uLawWide
            | with_reducible apply uValueAt
            | with_reducible apply uIsSquare
            | ((with_reducible apply R.nw); intro HN tn sn ht)
            | with_reducible apply iteT
            | with_reducible apply iteF
            | with_reducible apply R.notT
            | with_reducible apply R.notF
            | ((with_reducible apply SqT.of); with_reducible assumption)
            | ((with_reducible apply SqL.of); with_reducible assumption)
            | ((with_reducible apply same_seqT); with_reducible assumption)
            | ((with_reducible apply sameB); with_reducible assumption)
            | ((with_reducible apply same_at); with_reducible assumption)
            | ((with_reducible apply kp_seqT); with_reducible assumption)
            | ((with_reducible apply Same.seq); with_reducible assumption)
            | ((with_reducible apply Kp.seqL); with_reducible assumption)
            | ((with_reducible apply fresh_ne); with_reducible assumption)
            | ((with_reducible apply Dw.same); with_reducible assumption)
            | ((with_reducible apply R.isEq); exact eq_true (by first | decide | omega))
            | ((with_reducible apply R.isLt); first | decide | omega)
            | ((with_reducible apply R.isLtI); first | decide | omega)
            | ((with_reducible apply R.isLeI); first | decide | omega)
            | ((with_reducible apply R.cdiv); exact rfl)
            | ((with_reducible apply R.cpow); exact rfl)
            | with_reducible apply R.cdivX
            | ((with_reducible apply R.isNe); omega)
            | with_reducible apply hU
            | ((with_reducible apply wayNF); first | exact rfl | exact ⟨rfl, rfl⟩ | exact ⟨rfl, rfl, rfl⟩ | exact ⟨rfl, rfl, rfl, rfl⟩)
            | with_reducible apply R.bm
            | ((with_reducible apply R.bmT); (focus ((first | with_reducible assumption | ((with_reducible apply same_at); with_reducible assumption) | ((with_reducible apply kp_at); with_reducible assumption)); done)))
            | with_reducible apply R.dput
            | with_reducible apply R.dget
            | with_reducible apply R.din
            | with_reducible apply R.dget2
            | with_reducible apply R.forE
            | with_reducible apply R.rng1
            | with_reducible apply R.rng2
            | with_reducible apply R.rg1
            | with_reducible apply R.rg2
            | with_reducible apply R.lcE
            | with_reducible apply R.itup
            | with_reducible apply R.ilst
            )
          refine R.refs (S := SqL K _) (xs := (topsQ b r).map V.int) (by rw [et]; exact SqL.of ht) ?_
          refine R.lcFL (ns := topsQ b r) (tpP a) (tpF a) (by rw [et]; show _ ≤ 100000; simp) (by rw [et]; exact SqL.of ht) (fun n H' C E' hn sm c1 c2 => ?_) (fun H' D hD sm nD => ?_)
          · have bn : Bd 6011 n := by
              rw [et] at hn
              simp only [List.mem_cons, List.not_mem_nil, or_false] at hn
              rcases hn with rfl
              all_goals (apply bdm; (repeat' (first   | with_reducible apply R.var   | with_reducible apply R.gsE   | ((with_reducible apply R.gsN); (focus exact rfl))   | with_reducible apply R.lenS   | ((with_reducible apply R.lenB); exact rfl)   | ((with_reducible apply R.isEq); exact rfl)   | with_reducible apply R.op   | with_reducible apply R.i2   | with_reducible apply R.i0   | with_reducible apply R.con   | with_reducible apply R.cons   | with_reducible apply R.nil   | with_reducible apply R.gcons   | with_reducible apply R.gname   | ((with_reducible apply R.ixT); (focus ((repeat' (first | with_reducible assumption | with_reducible apply hU | ((with_reducible apply SqT.of); with_reducible assumption) | ((with_reducible apply same_seqT); with_reducible assumption) | ((with_reducible apply kp_seqT); with_reducible assumption) | ((with_reducible apply Dw.same); with_reducible assumption))); done)); exact rfl)   | ((with_reducible apply R.ixL); (focus ((repeat' (first | with_reducible assumption | ((with_reducible apply SqL.of); with_reducible assumption) | ((with_reducible apply Same.seq); with_reducible assumption) | ((with_reducible apply Kp.seqL); with_reducible assumption) | ((with_reducible apply fresh_ne); with_reducible assumption) | ((with_reducible apply Dw.same); with_reducible assumption))); done)); exact rfl)   | with_reducible assumption   | with_reducible apply Bd.mulW   | with_reducible apply Bd.mul   | with_reducible apply Bd.add   | with_reducible apply Bd.sub   | ((with_reducible apply Bd.l8); exact eq_true (by decide))   | ((with_reducible apply Bd.lit); exact eq_true (by decide))   | with_reducible apply Bd.neg   | with_reducible apply Bd.div   | with_reducible apply Bd.abs   | with_reducible apply Bd.mod   | with_reducible apply Bd.fdiv   | ((with_reducible apply Bd.om); omega)   | ((with_reducible apply R.isLe); first | decide | omega)   | with_reducible apply R.un   | with_reducible apply R.u1   | with_reducible apply R.tup   | with_reducible apply R.lst   | with_reducible apply R.call   | with_reducible apply R.callB   | with_reducible apply R.gtup   | with_reducible apply R.gnil   | with_reducible apply R.seq   | with_reducible apply R.asg   | with_reducible apply R.ret   | with_reducible apply R.brk   | with_reducible apply R.cont   | with_reducible apply R.next   | with_reducible apply R.drop   | with_reducible apply R.par   | with_reducible apply R.par2   | with_reducible apply R.ifs   | with_reducible apply R.tif   | with_reducible apply R.test   | with_reducible apply R.tb'   | with_reducible apply R.isbl   | with_reducible apply R.cmp   | with_reducible apply R.t2i   | with_reducible apply R.intp   | with_reducible apply R.and   | with_reducible apply R.or   | with_reducible apply R.not   | with_reducible apply R.andV   | with_reducible apply R.orV   | with_reducible apply R.notV   | with_reducible apply R.chain   | with_reducible apply R.tupL   | with_reducible apply R.lstL   | with_reducible apply R.cat   | with_reducible apply R.absI   | with_reducible apply R.intI   | with_reducible apply R.intB   | with_reducible apply R.eqS   | with_reducible apply R.eqBl   | with_reducible apply R.neBl   | with_reducible apply R.sl   | with_reducible apply R.noPart   | with_reducible apply R.part   | with_reducible apply R.isInt   | with_reducible apply R.slL   | with_reducible apply R.isiT   | with_reducible apply R.isiLst   | with_reducible apply R.nwT   | with_reducible apply R.nwL   | ((with_reducible apply R.mt); intro HN tn sn nn ht)   | ((with_reducible apply R.ml); intro HN tn sn nn ht)   | ((with_reducible apply R.isiTupS); focus ((repeat' (first | with_reducible assumption | with_reducible apply hU | ((with_reducible apply SqT.of); with_reducible assumption) | ((with_reducible apply same_seqT); with_reducible assumption) | ((with_reducible apply kp_seqT); with_reducible assumption) | ((with_reducible apply Dw.same); with_reducible assumption))); done))   | ((with_reducible apply R.ne4); focus ((repeat' (first | with_reducible assumption | with_reducible apply hU | ((with_reducible apply SqT.of); with_reducible assumption) | ((with_reducible apply same_seqT); with_reducible assumption) | ((with_reducible apply kp_seqT); with_reducible assumption) | ((with_reducible apply Dw.same); with_reducible assumption))); done))   | ((with_reducible apply R.ne3); focus ((repeat' (first | with_reducible assumption | with_reducible apply hU | ((with_reducible apply SqT.of); with_reducible assumption) | ((with_reducible apply same_seqT); with_reducible assumption) | ((with_reducible apply kp_seqT); with_reducible assumption) | ((with_reducible apply Dw.same); with_reducible assumption))); done))   | ((with_reducible apply R.ne2); focus ((repeat' (first | with_reducible assumption | with_reducible apply hU | ((with_reducible apply SqT.of); with_reducible assumption) | ((with_reducible apply same_seqT); with_reducible assumption) | ((with_reducible apply kp_seqT); with_reducible assumption) | ((with_reducible apply Dw.same); with_reducible assumption))); done))   | ((with_reducible apply R.eq4); focus ((repeat' (first | with_reducible assumption | with_reducible apply hU | ((with_reducible apply SqT.of); with_reducible assumption) | ((with_reducible apply same_seqT); with_reducible assumption) | ((with_reducible apply kp_seqT); with_reducible assumption) | ((with_reducible apply Dw.same); with_reducible assumption))); done))   | ((with_reducible apply R.eq3); focus ((repeat' (first | with_reducible assumption | with_reducible apply hU | ((with_reducible apply SqT.of); with_reducible assumption) | ((with_reducible apply same_seqT); with_reducible assumption) | ((with_reducible apply kp_seqT); with_reducible assumption) | ((with_reducible apply Dw.same); with_reducible assumption))); done))   | ((with_reducible apply R.eq2); focus ((repeat' (first | with_reducible assumption | with_reducible apply hU | ((with_reducible apply SqT.of); with_reducible assumption) | ((with_reducible apply same_seqT); with_reducible assumption) | ((with_reducible apply kp_seqT); with_reducible assumption) | ((with_reducible apply Dw.same); with_reducible assumption))); done))   | with_reducible apply uLawNext   | with_reducible apply uLawWide   | with_reducible apply uValueAt   | with_reducible apply uIsSquare   | ((with_reducible apply R.nw); intro HN tn sn ht)   | with_reducible apply iteT   | with_reducible apply iteF   | with_reducible apply R.notT   | with_reducible apply R.notF   | ((with_reducible apply SqT.of); with_reducible assumption)   | ((with_reducible apply SqL.of); with_reducible assumption)   | ((with_reducible apply same_seqT); with_reducible assumption)   | ((with_reducible apply sameB); with_reducible assumption)   | ((with_reducible apply same_at); with_reducible assumption)   | ((with_reducible apply kp_seqT); with_reducible assumption)   | ((with_reducible apply Same.seq); with_reducible assumption)   | ((with_reducible apply Kp.seqL); with_reducible assumption)   | ((with_reducible apply fresh_ne); with_reducible assumption)   | ((with_reducible apply Dw.same); with_reducible assumption)   | ((with_reducible apply R.isEq); exact eq_true (by first | decide | omega))   | ((with_reducible apply R.isLt); first | decide | omega)   | ((with_reducible apply R.isLtI); first | decide | omega)   | ((with_reducible apply R.isLeI); first | decide | omega)   | ((with_reducible apply R.cdiv); exact rfl)   | ((with_reducible apply R.cpow); exact rfl)   | with_reducible apply R.cdivX   | ((with_reducible apply R.isNe); omega)   | with_reducible apply hU   | ((with_reducible apply wayNF); first | exact rfl | exact ⟨rfl, rfl⟩ | exact ⟨rfl, rfl, rfl⟩ | exact ⟨rfl, rfl, rfl, rfl⟩)   | with_reducible apply R.bm   | ((with_reducible apply R.bmT); (focus ((first | with_reducible assumption | ((with_reducible apply same_at); with_reducible assumption) | ((with_reducible apply kp_at); with_reducible assumption)); done)))   | with_reducible apply R.dput   | with_reducible apply R.dget   | with_reducible apply R.din   | with_reducible apply R.dget2   | with_reducible apply R.forE   | with_reducible apply R.rng1   | with_reducible apply R.rng2   | with_reducible apply R.rg1   | with_reducible apply R.rg2   | with_reducible apply R.lcE   | with_reducible apply R.itup   | with_reducible apply R.ilst   )))
            repeat' (first
              | with_reducible apply R.var
              | with_reducible apply R.gsE
              | ((with_reducible apply R.gsN); (focus exact rfl))
              | with_reducible apply R.lenS
              | ((with_reducible apply R.lenB); exact rfl)
              | ((with_reducible apply R.isEq); exact rfl)
              | with_reducible apply R.op
              | with_reducible apply R.i2
              | with_reducible apply R.i0
              | with_reducible apply R.con
              | with_reducible apply R.cons
              | with_reducible apply R.nil
              | with_reducible apply R.gcons
              | with_reducible apply R.gname
              | ((with_reducible apply R.ixT); (focus ((repeat' (first | with_reducible assumption | with_reducible apply hU | ((with_reducible apply SqT.of); with_reducible assumption) | ((with_reducible apply same_seqT); with_reducible assumption) | ((with_reducible apply kp_seqT); with_reducible assumption) | ((with_reducible apply Dw.same); with_reducible assumption))); done)); exact rfl)
              | ((with_reducible apply R.ixL); (focus ((repeat' (first | with_reducible assumption | ((with_reducible apply SqL.of); with_reducible assumption) | ((with_reducible apply Same.seq); with_reducible assumption) | ((with_reducible apply Kp.seqL); with_reducible assumption) | ((with_reducible apply fresh_ne); with_reducible assumption) | ((with_reducible apply Dw.same); with_reducible assumption))); done)); exact rfl)
              | with_reducible assumption
              | with_reducible apply Bd.mulW
              | with_reducible apply Bd.mul
              | with_reducible apply Bd.add
              | with_reducible apply Bd.sub
              | ((with_reducible apply Bd.l8); exact eq_true (by decide))
              | ((with_reducible apply Bd.lit); exact eq_true (by decide))
              | with_reducible apply Bd.neg
              | with_reducible apply Bd.div
              | with_reducible apply Bd.abs
              | with_reducible apply Bd.mod
              | with_reducible apply Bd.fdiv
              | ((with_reducible apply Bd.om); omega)
              | ((with_reducible apply R.isLe); first | decide | omega)
              | with_reducible apply R.un
              | with_reducible apply R.u1
              | with_reducible apply R.tup
              | with_reducible apply R.lst
              | with_reducible apply R.call
              | with_reducible apply R.callB
              | with_reducible apply R.gtup
              | with_reducible apply R.gnil
              | with_reducible apply R.seq
              | with_reducible apply R.asg
              | with_reducible apply R.ret
              | with_reducible apply R.brk
              | with_reducible apply R.cont
              | with_reducible apply R.next
              | with_reducible apply R.drop
              | with_reducible apply R.par
              | with_reducible apply R.par2
              | with_reducible apply R.ifs
              | with_reducible apply R.tif
              | with_reducible apply R.test
              | with_reducible apply R.tb'
              | with_reducible apply R.isbl
              | with_reducible apply R.cmp
              | with_reducible apply R.t2i
              | with_reducible apply R.intp
              | with_reducible apply R.and
              | with_reducible apply R.or
              | with_reducible apply R.not
              | with_reducible apply R.andV
              | with_reducible apply R.orV
              | with_reducible apply R.notV
              | with_reducible apply R.chain
              | with_reducible apply R.tupL
              | with_reducible apply R.lstL
              | with_reducible apply R.cat
              | with_reducible apply R.absI
              | with_reducible apply R.intI
              | with_reducible apply R.intB
              | with_reducible apply R.eqS
              | with_reducible apply R.eqBl
              | with_reducible apply R.neBl
              | with_reducible apply R.sl
              | with_reducible apply R.noPart
              | with_reducible apply R.part
              | with_reducible apply R.isInt
              | with_reducible apply R.slL
              | with_reducible apply R.isiT
              | with_reducible apply R.isiLst
              | with_reducible apply R.nwT
              | with_reducible apply R.nwL
              | ((with_reducible apply R.mt); intro HN tn sn nn ht)
              | ((with_reducible apply R.ml); intro HN tn sn nn ht)
              | ((with_reducible apply R.isiTupS); focus ((repeat' (first | with_reducible assumption | with_reducible apply hU | ((with_reducible apply SqT.of); with_reducible assumption) | ((with_reducible apply same_seqT); with_reducible assumption) | ((with_reducible apply kp_seqT); with_reducible assumption) | ((with_reducible apply Dw.same); with_reducible assumption))); done))
              | ((with_reducible apply R.ne4); focus ((repeat' (first | with_reducible assumption | with_reducible apply hU | ((with_reducible apply SqT.of); with_reducible assumption) | ((with_reducible apply same_seqT); with_reducible assumption) | ((with_reducible apply kp_seqT); with_reducible assumption) | ((with_reducible apply Dw.same); with_reducible assumption))); done))
              | ((with_reducible apply R.ne3); focus ((repeat' (first | with_reducible assumption | with_reducible apply hU | ((with_reducible apply SqT.of); with_reducible assumption) | ((with_reducible apply same_seqT); with_reducible assumption) | ((with_reducible apply kp_seqT); with_reducible assumption) | ((with_reducible apply Dw.same); with_reducible assumption))); done))
              | ((with_reducible apply R.ne2); focus ((repeat' (first | with_reducible assumption | with_reducible apply hU | ((with_reducible apply SqT.of); with_reducible assumption) | ((with_reducible apply same_seqT); with_reducible assumption) | ((with_reducible apply kp_seqT); with_reducible assumption) | ((with_reducible apply Dw.same); with_reducible assumption))); done))
              | ((with_reducible apply R.eq4); focus ((repeat' (first | with_reducible assumption | with_reducible apply hU | ((with_reducible apply SqT.of); with_reducible assumption) | ((with_reducible apply same_seqT); with_reducible assumption) | ((with_reducible apply kp_seqT); with_reducible assumption) | ((with_reducible apply Dw.same); with_reducible assumption))); done))
              | ((with_reducible apply R.eq3); focus ((repeat' (first | with_reducible assumption | with_reducible apply hU | ((with_reducible apply SqT.of); with_reducible assumption) | ((with_reducible apply same_seqT); with_reducible assumption) | ((with_reducible apply kp_seqT); with_reducible assumption) | ((with_reducible apply Dw.same); with_reducible assumption))); done))
              | ((with_reducible apply R.eq2); focus ((repeat' (first | with_reducible assumption | with_reducible apply hU | ((with_reducible apply SqT.of); with_reducible assumption) | ((with_reducible apply same_seqT); with_reducible assumption) | ((with_reducible apply kp_seqT); with_reducible assumption) | ((with_reducible apply Dw.same); with_reducible assumption))); done))
              | with_reducible apply uLawNext
              | with_reducible apply uLawWide
              | with_reducible apply uValueAt
              | with_reducible apply uIsSquare
              | ((with_reducible apply R.nw); intro HN tn sn ht)
              | with_reducible apply iteT
              | with_reducible apply iteF
              | with_reducible apply R.notT
              | with_reducible apply R.notF
              | ((with_reducible apply SqT.of); with_reducible assumption)
              | ((with_reducible apply SqL.of); with_reducible assumption)
              | ((with_reducible apply same_seqT); with_reducible assumption)
              | ((with_reducible apply sameB); with_reducible assumption)
              | ((with_reducible apply same_at); with_reducible assumption)
              | ((with_reducible apply kp_seqT); with_reducible assumption)
              | ((with_reducible apply Same.seq); with_reducible assumption)
              | ((with_reducible apply Kp.seqL); with_reducible assumption)
              | ((with_reducible apply fresh_ne); with_reducible assumption)
              | ((with_reducible apply Dw.same); with_reducible assumption)
              | ((with_reducible apply R.isEq); exact eq_true (by first | decide | omega))
              | ((with_reducible apply R.isLt); first | decide | omega)
              | ((with_reducible apply R.isLtI); first | decide | omega)
              | ((with_reducible apply R.isLeI); first | decide | omega)
              | ((with_reducible apply R.cdiv); exact rfl)
              | ((with_reducible apply R.cpow); exact rfl)
              | with_reducible apply R.cdivX
              | ((with_reducible apply R.isNe); omega)
              | with_reducible apply hU
              | ((with_reducible apply wayNF); first | exact rfl | exact ⟨rfl, rfl⟩ | exact ⟨rfl, rfl, rfl⟩ | exact ⟨rfl, rfl, rfl, rfl⟩)
              | with_reducible apply R.bm
              | ((with_reducible apply R.bmT); (focus ((first | with_reducible assumption | ((with_reducible apply same_at); with_reducible assumption) | ((with_reducible apply kp_at); with_reducible assumption)); done)))
              | with_reducible apply R.dput
              | with_reducible apply R.dget
              | with_reducible apply R.din
              | with_reducible apply R.dget2
              | with_reducible apply R.forE
              | with_reducible apply R.rng1
              | with_reducible apply R.rng2
              | with_reducible apply R.rg1
              | with_reducible apply R.rg2
              | with_reducible apply R.lcE
              | with_reducible apply R.itup
              | with_reducible apply R.ilst
              )
            refine ⟨rfl, ?_⟩
            repeat' (first
              | with_reducible apply R.var
              | with_reducible apply R.gsE
              | ((with_reducible apply R.gsN); (focus exact rfl))
              | with_reducible apply R.lenS
              | ((with_reducible apply R.lenB); exact rfl)
              | ((with_reducible apply R.isEq); exact rfl)
              | with_reducible apply R.op
              | with_reducible apply R.i2
              | with_reducible apply R.i0
              | with_reducible apply R.con
              | with_reducible apply R.cons
              | with_reducible apply R.nil
              | with_reducible apply R.gcons
              | with_reducible apply R.gname
              | ((with_reducible apply R.ixT); (focus ((repeat' (first | with_reducible assumption | with_reducible apply hU | ((with_reducible apply SqT.of); with_reducible assumption) | ((with_reducible apply same_seqT); with_reducible assumption) | ((with_reducible apply kp_seqT); with_reducible assumption) | ((with_reducible apply Dw.same); with_reducible assumption))); done)); exact rfl)
              | ((with_reducible apply R.ixL); (focus ((repeat' (first | with_reducible assumption | ((with_reducible apply SqL.of); with_reducible assumption) | ((with_reducible apply Same.seq); with_reducible assumption) | ((with_reducible apply Kp.seqL); with_reducible assumption) | ((with_reducible apply fresh_ne); with_reducible assumption) | ((with_reducible apply Dw.same); with_reducible assumption))); done)); exact rfl)
              | with_reducible assumption
              | with_reducible apply Bd.mulW
              | with_reducible apply Bd.mul
              | with_reducible apply Bd.add
              | with_reducible apply Bd.sub
              | ((with_reducible apply Bd.l8); exact eq_true (by decide))
              | ((with_reducible apply Bd.lit); exact eq_true (by decide))
              | with_reducible apply Bd.neg
              | with_reducible apply Bd.div
              | with_reducible apply Bd.abs
              | with_reducible apply Bd.mod
              | with_reducible apply Bd.fdiv
              | ((with_reducible apply Bd.om); omega)
              | ((with_reducible apply R.isLe); first | decide | omega)
              | with_reducible apply R.un
              | with_reducible apply R.u1
              | with_reducible apply R.tup
              | with_reducible apply R.lst
              | with_reducible apply R.call
              | with_reducible apply R.callB
              | with_reducible apply R.gtup
              | with_reducible apply R.gnil
              | with_reducible apply R.seq
              | with_reducible apply R.asg
              | with_reducible apply R.ret
              | with_reducible apply R.brk
              | with_reducible apply R.cont
              | with_reducible apply R.next
              | with_reducible apply R.drop
              | with_reducible apply R.par
              | with_reducible apply R.par2
              | with_reducible apply R.ifs
              | with_reducible apply R.tif
              | with_reducible apply R.test
              | with_reducible apply R.tb'
              | with_reducible apply R.isbl
              | with_reducible apply R.cmp
              | with_reducible apply R.t2i
              | with_reducible apply R.intp
              | with_reducible apply R.and
              | with_reducible apply R.or
              | with_reducible apply R.not
              | with_reducible apply R.andV
              | with_reducible apply R.orV
              | with_reducible apply R.notV
              | with_reducible apply R.chain
              | with_reducible apply R.tupL
              | with_reducible apply R.lstL
              | with_reducible apply R.cat
              | with_reducible apply R.absI
              | with_reducible apply R.intI
              | with_reducible apply R.intB
              | with_reducible apply R.eqS
              | with_reducible apply R.eqBl
              | with_reducible apply R.neBl
              | with_reducible apply R.sl
              | with_reducible apply R.noPart
              | with_reducible apply R.part
              | with_reducible apply R.isInt
              | with_reducible apply R.slL
              | with_reducible apply R.isiT
              | with_reducible apply R.isiLst
              | with_reducible apply R.nwT
              | with_reducible apply R.nwL
              | ((with_reducible apply R.mt); intro HN tn sn nn ht)
              | ((with_reducible apply R.ml); intro HN tn sn nn ht)
              | ((with_reducible apply R.isiTupS); focus ((repeat' (first | with_reducible assumption | with_reducible apply hU | ((with_reducible apply SqT.of); with_reducible assumption) | ((with_reducible apply same_seqT); with_reducible assumption) | ((with_reducible apply kp_seqT); with_reducible assumption) | ((with_reducible apply Dw.same); with_reducible assumption))); done))
              | ((with_reducible apply R.ne4); focus ((repeat' (first | with_reducible assumption | with_reducible apply hU | ((with_reducible apply SqT.of); with_reducible assumption) | ((with_reducible apply same_seqT); with_reducible assumption) | ((with_reducible apply kp_seqT); with_reducible assumption) | ((with_reducible apply Dw.same); with_reducible assumption))); done))
              | ((with_reducible apply R.ne3); focus ((repeat' (first | with_reducible assumption | with_reducible apply hU | ((with_reducible apply SqT.of); with_reducible assumption) | ((with_reducible apply same_seqT); with_reducible assumption) | ((with_reducible apply kp_seqT); with_reducible assumption) | ((with_reducible apply Dw.same); with_reducible assumption))); done))
              | ((with_reducible apply R.ne2); focus ((repeat' (first | with_reducible assumption | with_reducible apply hU | ((with_reducible apply SqT.of); with_reducible assumption) | ((with_reducible apply same_seqT); with_reducible assumption) | ((with_reducible apply kp_seqT); with_reducible assumption) | ((with_reducible apply Dw.same); with_reducible assumption))); done))
              | ((with_reducible apply R.eq4); focus ((repeat' (first | with_reducible assumption | with_reducible apply hU | ((with_reducible apply SqT.of); with_reducible assumption) | ((with_reducible apply same_seqT); with_reducible assumption) | ((with_reducible apply kp_seqT); with_reducible assumption) | ((with_reducible apply Dw.same); with_reducible assumption))); done))
              | ((with_reducible apply R.eq3); focus ((repeat' (first | with_reducible assumption | with_reducible apply hU | ((with_reducible apply SqT.of); with_reducible assumption) | ((with_reducible apply same_seqT); with_reducible assumption) | ((with_reducible apply kp_seqT); with_reducible assumption) | ((with_reducible apply Dw.same); with_reducible assumption))); done))
              | ((with_reducible apply R.eq2); focus ((repeat' (first | with_reducible assumption | with_reducible apply hU | ((with_reducible apply SqT.of); with_reducible assumption) | ((with_reducible apply same_seqT); with_reducible assumption) | ((with_reducible apply kp_seqT); with_reducible assumption) | ((with_reducible apply Dw.same); with_reducible assumption))); done))
              | with_reducible apply uLawNext
              | with_reducible apply uLawWide
              | with_reducible apply uValueAt
              | with_reducible apply uIsSquare
              | ((with_reducible apply R.nw); intro HN tn sn ht)
              | with_reducible apply iteT
              | with_reducible apply iteF
              | with_reducible apply R.notT
              | with_reducible apply R.notF
              | ((with_reducible apply SqT.of); with_reducible assumption)
              | ((with_reducible apply SqL.of); with_reducible assumption)
              | ((with_reducible apply same_seqT); with_reducible assumption)
              | ((with_reducible apply sameB); with_reducible assumption)
              | ((with_reducible apply same_at); with_reducible assumption)
              | ((with_reducible apply kp_seqT); with_reducible assumption)
              | ((with_reducible apply Same.seq); with_reducible assumption)
              | ((with_reducible apply Kp.seqL); with_reducible assumption)
              | ((with_reducible apply fresh_ne); with_reducible assumption)
              | ((with_reducible apply Dw.same); with_reducible assumption)
              | ((with_reducible apply R.isEq); exact eq_true (by first | decide | omega))
              | ((with_reducible apply R.isLt); first | decide | omega)
              | ((with_reducible apply R.isLtI); first | decide | omega)
              | ((with_reducible apply R.isLeI); first | decide | omega)
              | ((with_reducible apply R.cdiv); exact rfl)
              | ((with_reducible apply R.cpow); exact rfl)
              | with_reducible apply R.cdivX
              | ((with_reducible apply R.isNe); omega)
              | with_reducible apply hU
              | ((with_reducible apply wayNF); first | exact rfl | exact ⟨rfl, rfl⟩ | exact ⟨rfl, rfl, rfl⟩ | exact ⟨rfl, rfl, rfl, rfl⟩)
              | with_reducible apply R.bm
              | ((with_reducible apply R.bmT); (focus ((first | with_reducible assumption | ((with_reducible apply same_at); with_reducible assumption) | ((with_reducible apply kp_at); with_reducible assumption)); done)))
              | with_reducible apply R.dput
              | with_reducible apply R.dget
              | with_reducible apply R.din
              | with_reducible apply R.dget2
              | with_reducible apply R.forE
              | with_reducible apply R.rng1
              | with_reducible apply R.rng2
              | with_reducible apply R.rg1
              | with_reducible apply R.rg2
              | with_reducible apply R.lcE
              | with_reducible apply R.itup
              | with_reducible apply R.ilst
              )
            refine way2 (fun h => ?_) (fun h => ?_)
            · skip
              repeat' (first
                | with_reducible apply R.var
                | with_reducible apply R.gsE
                | ((with_reducible apply R.gsN); (focus exact rfl))
                | with_reducible apply R.lenS
                | ((with_reducible apply R.lenB); exact rfl)
                | ((with_reducible apply R.isEq); exact rfl)
                | with_reducible apply R.op
                | with_reducible apply R.i2
                | with_reducible apply R.i0
                | with_reducible apply R.con
                | with_reducible apply R.cons
                | with_reducible apply R.nil
                | with_reducible apply R.gcons
                | with_reducible apply R.gname
                | ((with_reducible apply R.ixT); (focus ((repeat' (first | with_reducible assumption | with_reducible apply hU | ((with_reducible apply SqT.of); with_reducible assumption) | ((with_reducible apply same_seqT); with_reducible assumption) | ((with_reducible apply kp_seqT); with_reducible assumption) | ((with_reducible apply Dw.same); with_reducible assumption))); done)); exact rfl)
                | ((with_reducible apply R.ixL); (focus ((repeat' (first | with_reducible assumption | ((with_reducible apply SqL.of); with_reducible assumption) | ((with_reducible apply Same.seq); with_reducible assumption) | ((with_reducible apply Kp.seqL); with_reducible assumption) | ((with_reducible apply fresh_ne); with_reducible assumption) | ((with_reducible apply Dw.same); with_reducible assumption))); done)); exact rfl)
                | with_reducible assumption
                | with_reducible apply Bd.mulW
                | with_reducible apply Bd.mul
                | with_reducible apply Bd.add
                | with_reducible apply Bd.sub
                | ((with_reducible apply Bd.l8); exact eq_true (by decide))
                | ((with_reducible apply Bd.lit); exact eq_true (by decide))
                | with_reducible apply Bd.neg
                | with_reducible apply Bd.div
                | with_reducible apply Bd.abs
                | with_reducible apply Bd.mod
                | with_reducible apply Bd.fdiv
                | ((with_reducible apply Bd.om); omega)
                | ((with_reducible apply R.isLe); first | decide | omega)
                | with_reducible apply R.un
                | with_reducible apply R.u1
                | with_reducible apply R.tup
                | with_reducible apply R.lst
                | with_reducible apply R.call
                | with_reducible apply R.callB
                | with_reducible apply R.gtup
                | with_reducible apply R.gnil
                | with_reducible apply R.seq
                | with_reducible apply R.asg
                | with_reducible apply R.ret
                | with_reducible apply R.brk
                | with_reducible apply R.cont
                | with_reducible apply R.next
                | with_reducible apply R.drop
                | with_reducible apply R.par
                | with_reducible apply R.par2
                | with_reducible apply R.ifs
                | with_reducible apply R.tif
                | with_reducible apply R.test
                | with_reducible apply R.tb'
                | with_reducible apply R.isbl
                | with_reducible apply R.cmp
                | with_reducible apply R.t2i
                | with_reducible apply R.intp
                | with_reducible apply R.and
                | with_reducible apply R.or
                | with_reducible apply R.not
                | with_reducible apply R.andV
                | with_reducible apply R.orV
                | with_reducible apply R.notV
                | with_reducible apply R.chain
                | with_reducible apply R.tupL
                | with_reducible apply R.lstL
                | with_reducible apply R.cat
                | with_reducible apply R.absI
                | with_reducible apply R.intI
                | with_reducible apply R.intB
                | with_reducible apply R.eqS
                | with_reducible apply R.eqBl
                | with_reducible apply R.neBl
                | with_reducible apply R.sl
                | with_reducible apply R.noPart
                | with_reducible apply R.part
                | with_reducible apply R.isInt
                | with_reducible apply R.slL
                | with_reducible apply R.isiT
                | with_reducible apply R.isiLst
                | with_reducible apply R.nwT
                | with_reducible apply R.nwL
                | ((with_reducible apply R.mt); intro HN tn sn nn ht)
                | ((with_reducible apply R.ml); intro HN tn sn nn ht)
                | ((with_reducible apply R.isiTupS); focus ((repeat' (first | with_reducible assumption | with_reducible apply hU | ((with_reducible apply SqT.of); with_reducible assumption) | ((with_reducible apply same_seqT); with_reducible assumption) | ((with_reducible apply kp_seqT); with_reducible assumption) | ((with_reducible apply Dw.same); with_reducible assumption))); done))
                | ((with_reducible apply R.ne4); focus ((repeat' (first | with_reducible assumption | with_reducible apply hU | ((with_reducible apply SqT.of); with_reducible assumption) | ((with_reducible apply same_seqT); with_reducible assumption) | ((with_reducible apply kp_seqT); with_reducible assumption) | ((with_reducible apply Dw.same); with_reducible assumption))); done))
                | ((with_reducible apply R.ne3); focus ((repeat' (first | with_reducible assumption | with_reducible apply hU | ((with_reducible apply SqT.of); with_reducible assumption) | ((with_reducible apply same_seqT); with_reducible assumption) | ((with_reducible apply kp_seqT); with_reducible assumption) | ((with_reducible apply Dw.same); with_reducible assumption))); done))
                | ((with_reducible apply R.ne2); focus ((repeat' (first | with_reducible assumption | with_reducible apply hU | ((with_reducible apply SqT.of); with_reducible assumption) | ((with_reducible apply same_seqT); with_reducible assumption) | ((with_reducible apply kp_seqT); with_reducible assumption) | ((with_reducible apply Dw.same); with_reducible assumption))); done))
                | ((with_reducible apply R.eq4); focus ((repeat' (first | with_reducible assumption | with_reducible apply hU | ((with_reducible apply SqT.of); with_reducible assumption) | ((with_reducible apply same_seqT); with_reducible assumption) | ((with_reducible apply kp_seqT); with_reducible assumption) | ((with_reducible apply Dw.same); with_reducible assumption))); done))
                | ((with_reducible apply R.eq3); focus ((repeat' (first | with_reducible assumption | with_reducible apply hU | ((with_reducible apply SqT.of); with_reducible assumption) | ((with_reducible apply same_seqT); with_reducible assumption) | ((with_reducible apply kp_seqT); with_reducible assumption) | ((with_reducible apply Dw.same); with_reducible assumption))); done))
                | ((with_reducible apply R.eq2); focus ((repeat' (first | with_reducible assumption | with_reducible apply hU | ((with_reducible apply SqT.of); with_reducible assumption) | ((with_reducible apply same_seqT); with_reducible assumption) | ((with_reducible apply kp_seqT); with_reducible assumption) | ((with_reducible apply Dw.same); with_reducible assumption))); done))
                | with_reducible apply uLawNext
                | with_reducible apply uLawWide
                | with_reducible apply uValueAt
                | with_reducible apply uIsSquare
                | ((with_reducible apply R.nw); intro HN tn sn ht)
                | with_reducible apply iteT
                | with_reducible apply iteF
                | with_reducible apply R.notT
                | with_reducible apply R.notF
                | ((with_reducible apply SqT.of); with_reducible assumption)
                | ((with_reducible apply SqL.of); with_reducible assumption)
                | ((with_reducible apply same_seqT); with_reducible assumption)
                | ((with_reducible apply sameB); with_reducible assumption)
                | ((with_reducible apply same_at); with_reducible assumption)
                | ((with_reducible apply kp_seqT); with_reducible assumption)
                | ((with_reducible apply Same.seq); with_reducible assumption)
                | ((with_reducible apply Kp.seqL); with_reducible assumption)
                | ((with_reducible apply fresh_ne); with_reducible assumption)
                | ((with_reducible apply Dw.same); with_reducible assumption)
                | ((with_reducible apply R.isEq); exact eq_true (by first | decide | omega))
                | ((with_reducible apply R.isLt); first | decide | omega)
                | ((with_reducible apply R.isLtI); first | decide | omega)
                | ((with_reducible apply R.isLeI); first | decide | omega)
                | ((with_reducible apply R.cdiv); exact rfl)
                | ((with_reducible apply R.cpow); exact rfl)
                | with_reducible apply R.cdivX
                | ((with_reducible apply R.isNe); omega)
                | with_reducible apply hU
                | ((with_reducible apply wayNF); first | exact rfl | exact ⟨rfl, rfl⟩ | exact ⟨rfl, rfl, rfl⟩ | exact ⟨rfl, rfl, rfl, rfl⟩)
                | with_reducible apply R.bm
                | ((with_reducible apply R.bmT); (focus ((first | with_reducible assumption | ((with_reducible apply same_at); with_reducible assumption) | ((with_reducible apply kp_at); with_reducible assumption)); done)))
                | with_reducible apply R.dput
                | with_reducible apply R.dget
                | with_reducible apply R.din
                | with_reducible apply R.dget2
                | with_reducible apply R.forE
                | with_reducible apply R.rng1
                | with_reducible apply R.rng2
                | with_reducible apply R.rg1
                | with_reducible apply R.rg2
                | with_reducible apply R.lcE
                | with_reducible apply R.itup
                | with_reducible apply R.ilst
                )
              exact c1 (decide_eq_true h)
            · exact c2 (decide_eq_false h)
          · skip
            repeat' (first
              | with_reducible apply R.var
              | with_reducible apply R.gsE
              | ((with_reducible apply R.gsN); (focus exact rfl))
              | with_reducible apply R.lenS
              | ((with_reducible apply R.lenB); exact rfl)
              | ((with_reducible apply R.isEq); exact rfl)
              | with_reducible apply R.op
              | with_reducible apply R.i2
              | with_reducible apply R.i0
              | with_reducible apply R.con
              | with_reducible apply R.cons
              | with_reducible apply R.nil
              | with_reducible apply R.gcons
              | with_reducible apply R.gname
              | ((with_reducible apply R.ixT); (focus ((repeat' (first | with_reducible assumption | with_reducible apply hU | ((with_reducible apply SqT.of); with_reducible assumption) | ((with_reducible apply same_seqT); with_reducible assumption) | ((with_reducible apply kp_seqT); with_reducible assumption) | ((with_reducible apply Dw.same); with_reducible assumption))); done)); exact rfl)
              | ((with_reducible apply R.ixL); (focus ((repeat' (first | with_reducible assumption | ((with_reducible apply SqL.of); with_reducible assumption) | ((with_reducible apply Same.seq); with_reducible assumption) | ((with_reducible apply Kp.seqL); with_reducible assumption) | ((with_reducible apply fresh_ne); with_reducible assumption) | ((with_reducible apply Dw.same); with_reducible assumption))); done)); exact rfl)
              | with_reducible assumption
              | with_reducible apply Bd.mulW
              | with_reducible apply Bd.mul
              | with_reducible apply Bd.add
              | with_reducible apply Bd.sub
              | ((with_reducible apply Bd.l8); exact eq_true (by decide))
              | ((with_reducible apply Bd.lit); exact eq_true (by decide))
              | with_reducible apply Bd.neg
              | with_reducible apply Bd.div
              | with_reducible apply Bd.abs
              | with_reducible apply Bd.mod
              | with_reducible apply Bd.fdiv
              | ((with_reducible apply Bd.om); omega)
              | ((with_reducible apply R.isLe); first | decide | omega)
              | with_reducible apply R.un
              | with_reducible apply R.u1
              | with_reducible apply R.tup
              | with_reducible apply R.lst
              | with_reducible apply R.call
              | with_reducible apply R.callB
              | with_reducible apply R.gtup
              | with_reducible apply R.gnil
              | with_reducible apply R.seq
              | with_reducible apply R.asg
              | with_reducible apply R.ret
              | with_reducible apply R.brk
              | with_reducible apply R.cont
              | with_reducible apply R.next
              | with_reducible apply R.drop
              | with_reducible apply R.par
              | with_reducible apply R.par2
              | with_reducible apply R.ifs
              | with_reducible apply R.tif
              | with_reducible apply R.test
              | with_reducible apply R.tb'
              | with_reducible apply R.isbl
              | with_reducible apply R.cmp
              | with_reducible apply R.t2i
              | with_reducible apply R.intp
              | with_reducible apply R.and
              | with_reducible apply R.or
              | with_reducible apply R.not
              | with_reducible apply R.andV
              | with_reducible apply R.orV
              | with_reducible apply R.notV
              | with_reducible apply R.chain
              | with_reducible apply R.tupL
              | with_reducible apply R.lstL
              | with_reducible apply R.cat
              | with_reducible apply R.absI
              | with_reducible apply R.intI
              | with_reducible apply R.intB
              | with_reducible apply R.eqS
              | with_reducible apply R.eqBl
              | with_reducible apply R.neBl
              | with_reducible apply R.sl
              | with_reducible apply R.noPart
              | with_reducible apply R.part
              | with_reducible apply R.isInt
              | with_reducible apply R.slL
              | with_reducible apply R.isiT
              | with_reducible apply R.isiLst
              | with_reducible apply R.nwT
              | with_reducible apply R.nwL
              | ((with_reducible apply R.mt); intro HN tn sn nn ht)
              | ((with_reducible apply R.ml); intro HN tn sn nn ht)
              | ((with_reducible apply R.isiTupS); focus ((repeat' (first | with_reducible assumption | with_reducible apply hU | ((with_reducible apply SqT.of); with_reducible assumption) | ((with_reducible apply same_seqT); with_reducible assumption) | ((with_reducible apply kp_seqT); with_reducible assumption) | ((with_reducible apply Dw.same); with_reducible assumption))); done))
              | ((with_reducible apply R.ne4); focus ((repeat' (first | with_reducible assumption | with_reducible apply hU | ((with_reducible apply SqT.of); with_reducible assumption) | ((with_reducible apply same_seqT); with_reducible assumption) | ((with_reducible apply kp_seqT); with_reducible assumption) | ((with_reducible apply Dw.same); with_reducible assumption))); done))
              | ((with_reducible apply R.ne3); focus ((repeat' (first | with_reducible assumption | with_reducible apply hU | ((with_reducible apply SqT.of); with_reducible assumption) | ((with_reducible apply same_seqT); with_reducible assumption) | ((with_reducible apply kp_seqT); with_reducible assumption) | ((with_reducible apply Dw.same); with_reducible assumption))); done))
              | ((with_reducible apply R.ne2); focus ((repeat' (first | with_reducible assumption | with_reducible apply hU | ((with_reducible apply SqT.of); with_reducible assumption) | ((with_reducible apply same_seqT); with_reducible assumption) | ((with_reducible apply kp_seqT); with_reducible assumption) | ((with_reducible apply Dw.same); with_reducible assumption))); done))
              | ((with_reducible apply R.eq4); focus ((repeat' (first | with_reducible assumption | with_reducible apply hU | ((with_reducible apply SqT.of); with_reducible assumption) | ((with_reducible apply same_seqT); with_reducible assumption) | ((with_reducible apply kp_seqT); with_reducible assumption) | ((with_reducible apply Dw.same); with_reducible assumption))); done))
              | ((with_reducible apply R.eq3); focus ((repeat' (first | with_reducible assumption | with_reducible apply hU | ((with_reducible apply SqT.of); with_reducible assumption) | ((with_reducible apply same_seqT); with_reducible assumption) | ((with_reducible apply kp_seqT); with_reducible assumption) | ((with_reducible apply Dw.same); with_reducible assumption))); done))
              | ((with_reducible apply R.eq2); focus ((repeat' (first | with_reducible assumption | with_reducible apply hU | ((with_reducible apply SqT.of); with_reducible assumption) | ((with_reducible apply same_seqT); with_reducible assumption) | ((with_reducible apply kp_seqT); with_reducible assumption) | ((with_reducible apply Dw.same); with_reducible assumption))); done))
              | with_reducible apply uLawNext
              | with_reducible apply uLawWide
              | with_reducible apply uValueAt
              | with_reducible apply uIsSquare
              | ((with_reducible apply R.nw); intro HN tn sn ht)
              | with_reducible apply iteT
              | with_reducible apply iteF
              | with_reducible apply R.notT
              | with_reducible apply R.notF
              | ((with_reducible apply SqT.of); with_reducible assumption)
              | ((with_reducible apply SqL.of); with_reducible assumption)
              | ((with_reducible apply same_seqT); with_reducible assumption)
              | ((with_reducible apply sameB); with_reducible assumption)
              | ((with_reducible apply same_at); with_reducible assumption)
              | ((with_reducible apply kp_seqT); with_reducible assumption)
              | ((with_reducible apply Same.seq); with_reducible assumption)
              | ((with_reducible apply Kp.seqL); with_reducible assumption)
              | ((with_reducible apply fresh_ne); with_reducible assumption)
              | ((with_reducible apply Dw.same); with_reducible assumption)
              | ((with_reducible apply R.isEq); exact eq_true (by first | decide | omega))
              | ((with_reducible apply R.isLt); first | decide | omega)
              | ((with_reducible apply R.isLtI); first | decide | omega)
              | ((with_reducible apply R.isLeI); first | decide | omega)
              | ((with_reducible apply R.cdiv); exact rfl)
              | ((with_reducible apply R.cpow); exact rfl)
              | with_reducible apply R.cdivX
              | ((with_reducible apply R.isNe); omega)
              | with_reducible apply hU
              | ((with_reducible apply wayNF); first | exact rfl | exact ⟨rfl, rfl⟩ | exact ⟨rfl, rfl, rfl⟩ | exact ⟨rfl, rfl, rfl, rfl⟩)
              | with_reducible apply R.bm
              | ((with_reducible apply R.bmT); (focus ((first | with_reducible assumption | ((with_reducible apply same_at); with_reducible assumption) | ((with_reducible apply kp_at); with_reducible assumption)); done)))
              | with_reducible apply R.dput
              | with_reducible apply R.dget
              | with_reducible apply R.din
              | with_reducible apply R.dget2
              | with_reducible apply R.forE
              | with_reducible apply R.rng1
              | with_reducible apply R.rng2
              | with_reducible apply R.rg1
              | with_reducible apply R.rg2
              | with_reducible apply R.lcE
              | with_reducible apply R.itup
              | with_reducible apply R.ilst
              )
            refine R.srt (SqL.of hD) (fun ns' H2 p pm ps s2 n2 h2 => ?_)
            exact fin ((sn.trans sm).trans s2) (Same.free (sn.trans sm) n2) h2 pm ps
        · have et : topsQ b r = [-b - r, -b + r] := by unfold topsQ; rw [if_neg y]
          repeat' (first
            | with_reducible apply R.var
            | with_reducible apply R.gsE
            | ((with_reducible apply R.gsN); (focus exact rfl))
            | with_reducible apply R.lenS
            | ((with_reducible apply R.lenB); exact rfl)
            | ((with_reducible apply R.isEq); exact rfl)
            | with_reducible apply R.op
            | with_reducible apply R.i2
            | with_reducible apply R.i0
            | with_reducible apply R.con
            | with_reducible apply R.cons
            | with_reducible apply R.nil
            | with_reducible apply R.gcons
            | with_reducible apply R.gname
            | ((with_reducible apply R.ixT); (focus ((repeat' (first | with_reducible assumption | with_reducible apply hU | ((with_reducible apply SqT.of); with_reducible assumption) | ((with_reducible apply same_seqT); with_reducible assumption) | ((with_reducible apply kp_seqT); with_reducible assumption) | ((with_reducible apply Dw.same); with_reducible assumption))); done)); exact rfl)
            | ((with_reducible apply R.ixL); (focus ((repeat' (first | with_reducible assumption | ((with_reducible apply SqL.of); with_reducible assumption) | ((with_reducible apply Same.seq); with_reducible assumption) | ((with_reducible apply Kp.seqL); with_reducible assumption) | ((with_reducible apply fresh_ne); with_reducible assumption) | ((with_reducible apply Dw.same); with_reducible assumption))); done)); exact rfl)
            | with_reducible assumption
            | with_reducible apply Bd.mulW
            | with_reducible apply Bd.mul
            | with_reducible apply Bd.add
            | with_reducible apply Bd.sub
            | ((with_reducible apply Bd.l8); exact eq_true (by decide))
            | ((with_reducible apply Bd.lit); exact eq_true (by decide))
            | with_reducible apply Bd.neg
            | with_reducible apply Bd.div
            | with_reducible apply Bd.abs
            | with_reducible apply Bd.mod
            | with_reducible apply Bd.fdiv
            | ((with_reducible apply Bd.om); omega)
            | ((with_reducible apply R.isLe); first | decide | omega)
            | with_reducible apply R.un
            | with_reducible apply R.u1
            | with_reducible apply R.tup
            | with_reducible apply R.lst
            | with_reducible apply R.call
            | with_reducible apply R.callB
            | with_reducible apply R.gtup
            | with_reducible apply R.gnil
            | with_reducible apply R.seq
            | with_reducible apply R.asg
            | with_reducible apply R.ret
            | with_reducible apply R.brk
            | with_reducible apply R.cont
            | with_reducible apply R.next
            | with_reducible apply R.drop
            | with_reducible apply R.par
            | with_reducible apply R.par2
            | with_reducible apply R.ifs
            | with_reducible apply R.tif
            | with_reducible apply R.test
            | with_reducible apply R.tb'
            | with_reducible apply R.isbl
            | with_reducible apply R.cmp
            | with_reducible apply R.t2i
            | with_reducible apply R.intp
            | with_reducible apply R.and
            | with_reducible apply R.or
            | with_reducible apply R.not
            | with_reducible apply R.andV
            | with_reducible apply R.orV
            | with_reducible apply R.notV
            | with_reducible apply R.chain
            | with_reducible apply R.tupL
            | with_reducible apply R.lstL
            | with_reducible apply R.cat
            | with_reducible apply R.absI
            | with_reducible apply R.intI
            | with_reducible apply R.intB
            | with_reducible apply R.eqS
            | with_reducible apply R.eqBl
            | with_reducible apply R.neBl
            | with_reducible apply R.sl
            | with_reducible apply R.noPart
            | with_reducible apply R.part
            | with_reducible apply R.isInt
            | with_reducible apply R.slL
            | with_reducible apply R.isiT
            | with_reducible apply R.isiLst
            | with_reducible apply R.nwT
            | with_reducible apply R.nwL
            | ((with_reducible apply R.mt); intro HN tn sn nn ht)
            | ((with_reducible apply R.ml); intro HN tn sn nn ht)
            | ((with_reducible apply R.isiTupS); focus ((repeat' (first | with_reducible assumption | with_reducible apply hU | ((with_reducible apply SqT.of); with_reducible assumption) | ((with_reducible apply same_seqT); with_reducible assumption) | ((with_reducible apply kp_seqT); with_reducible assumption) | ((with_reducible apply Dw.same); with_reducible assumption))); done))
            | ((with_reducible apply R.ne4); focus ((repeat' (first | with_reducible assumption | with_reducible apply hU | ((with_reducible apply SqT.of); with_reducible assumption) | ((with_reducible apply same_seqT); with_reducible assumption) | ((with_reducible apply kp_seqT); with_reducible assumption) | ((with_reducible apply Dw.same); with_reducible assumption))); done))
            | ((with_reducible apply R.ne3); focus ((repeat' (first | with_reducible assumption | with_reducible apply hU | ((with_reducible apply SqT.of); with_reducible assumption) | ((with_reducible apply same_seqT); with_reducible assumption) | ((with_reducible apply kp_seqT); with_reducible assumption) | ((with_reducible apply Dw.same); with_reducible assumption))); done))
            | ((with_reducible apply R.ne2); focus ((repeat' (first | with_reducible assumption | with_reducible apply hU | ((with_reducible apply SqT.of); with_reducible assumption) | ((with_reducible apply same_seqT); with_reducible assumption) | ((with_reducible apply kp_seqT); with_reducible assumption) | ((with_reducible apply Dw.same); with_reducible assumption))); done))
            | ((with_reducible apply R.eq4); focus ((repeat' (first | with_reducible assumption | with_reducible apply hU | ((with_reducible apply SqT.of); with_reducible assumption) | ((with_reducible apply same_seqT); with_reducible assumption) | ((with_reducible apply kp_seqT); with_reducible assumption) | ((with_reducible apply Dw.same); with_reducible assumption))); done))
            | ((with_reducible apply R.eq3); focus ((repeat' (first | with_reducible assumption | with_reducible apply hU | ((with_reducible apply SqT.of); with_reducible assumption) | ((with_reducible apply same_seqT); with_reducible assumption) | ((with_reducible apply kp_seqT); with_reducible assumption) | ((with_reducible apply Dw.same); with_reducible assumption))); done))
            | ((with_reducible apply R.eq2); focus ((repeat' (first | with_reducible assumption | with_reducible apply hU | ((with_reducible apply SqT.of); with_reducible assumption) | ((with_reducible apply same_seqT); with_reducible assumption) | ((with_reducible apply kp_seqT); with_reducible assumption) | ((with_reducible apply Dw.same); with_reducible assumption))); done))
            | with_reducible apply uLawNext
            | with_reducible apply uLawWide
            | with_reducible apply uValueAt
            | with_reducible apply uIsSquare
            | ((with_reducible apply R.nw); intro HN tn sn ht)
            | with_reducible apply iteT
            | with_reducible apply iteF
            | with_reducible apply R.notT
            | with_reducible apply R.notF
            | ((with_reducible apply SqT.of); with_reducible assumption)
            | ((with_reducible apply SqL.of); with_reducible assumption)
            | ((with_reducible apply same_seqT); with_reducible assumption)
            | ((with_reducible apply sameB); with_reducible assumption)
            | ((with_reducible apply same_at); with_reducible assumption)
            | ((with_reducible apply kp_seqT); with_reducible assumption)
            | ((with_reducible apply Same.seq); with_reducible assumption)
            | ((with_reducible apply Kp.seqL); with_reducible assumption)
            | ((with_reducible apply fresh_ne); with_reducible assumption)
            | ((with_reducible apply Dw.same); with_reducible assumption)
            | ((with_reducible apply R.isEq); exact eq_true (by first | decide | omega))
            | ((with_reducible apply R.isLt); first | decide | omega)
            | ((with_reducible apply R.isLtI); first | decide | omega)
            | ((with_reducible apply R.isLeI); first | decide | omega)
            | ((with_reducible apply R.cdiv); exact rfl)
            | ((with_reducible apply R.cpow); exact rfl)
            | with_reducible apply R.cdivX
            | ((with_reducible apply R.isNe); omega)
            | with_reducible apply hU
            | ((with_reducible apply wayNF); first | exact rfl | exact ⟨rfl, rfl⟩ | exact ⟨rfl, rfl, rfl⟩ | exact ⟨rfl, rfl, rfl, rfl⟩)
            | with_reducible apply R.bm
            | ((with_reducible apply R.bmT); (focus ((first | with_reducible assumption | ((with_reducible apply same_at); with_reducible assumption) | ((with_reducible apply kp_at); with_reducible assumption)); done)))
            | with_reducible apply R.dput
            | with_reducible apply R.dget
            | with_reducible apply R.din
            | with_reducible apply R.dget2
            | with_reducible apply R.forE
            | with_reducible apply R.rng1
            | with_reducible apply R.rng2
            | with_reducible apply R.rg1
            | with_reducible apply R.rg2
            | with_reducible apply R.lcE
            | with_reducible apply R.itup
            | with_reducible apply R.ilst
            )
          refine R.refs (S := SqL K _) (xs := (topsQ b r).map V.int) (by rw [et]; exact SqL.of ht) ?_
          refine R.lcFL (ns := topsQ b r) (tpP a) (tpF a) (by rw [et]; show _ ≤ 100000; simp) (by rw [et]; exact SqL.of ht) (fun n H' C E' hn sm c1 c2 => ?_) (fun H' D hD sm nD => ?_)
          · have bn : Bd 6011 n := by
              rw [et] at hn
              simp only [List.mem_cons, List.not_mem_nil, or_false] at hn
              rcases hn with rfl | rfl
              all_goals (apply bdm; (repeat' (first   | with_reducible apply R.var   | with_reducible apply R.gsE   | ((with_reducible apply R.gsN); (focus exact rfl))   | with_reducible apply R.lenS   | ((with_reducible apply R.lenB); exact rfl)   | ((with_reducible apply R.isEq); exact rfl)   | with_reducible apply R.op   | with_reducible apply R.i2   | with_reducible apply R.i0   | with_reducible apply R.con   | with_reducible apply R.cons   | with_reducible apply R.nil   | with_reducible apply R.gcons   | with_reducible apply R.gname   | ((with_reducible apply R.ixT); (focus ((repeat' (first | with_reducible assumption | with_reducible apply hU | ((with_reducible apply SqT.of); with_reducible assumption) | ((with_reducible apply same_seqT); with_reducible assumption) | ((with_reducible apply kp_seqT); with_reducible assumption) | ((with_reducible apply Dw.same); with_reducible assumption))); done)); exact rfl)   | ((with_reducible apply R.ixL); (focus ((repeat' (first | with_reducible assumption | ((with_reducible apply SqL.of); with_reducible assumption) | ((with_reducible apply Same.seq); with_reducible assumption) | ((with_reducible apply Kp.seqL); with_reducible assumption) | ((with_reducible apply fresh_ne); with_reducible assumption) | ((with_reducible apply Dw.same); with_reducible assumption))); done)); exact rfl)   | with_reducible assumption   | with_reducible apply Bd.mulW   | with_reducible apply Bd.mul   | with_reducible apply Bd.add   | with_reducible apply Bd.sub   | ((with_reducible apply Bd.l8); exact eq_true (by decide))   | ((with_reducible apply Bd.lit); exact eq_true (by decide))   | with_reducible apply Bd.neg   | with_reducible apply Bd.div   | with_reducible apply Bd.abs   | with_reducible apply Bd.mod   | with_reducible apply Bd.fdiv   | ((with_reducible apply Bd.om); omega)   | ((with_reducible apply R.isLe); first | decide | omega)   | with_reducible apply R.un   | with_reducible apply R.u1   | with_reducible apply R.tup   | with_reducible apply R.lst   | with_reducible apply R.call   | with_reducible apply R.callB   | with_reducible apply R.gtup   | with_reducible apply R.gnil   | with_reducible apply R.seq   | with_reducible apply R.asg   | with_reducible apply R.ret   | with_reducible apply R.brk   | with_reducible apply R.cont   | with_reducible apply R.next   | with_reducible apply R.drop   | with_reducible apply R.par   | with_reducible apply R.par2   | with_reducible apply R.ifs   | with_reducible apply R.tif   | with_reducible apply R.test   | with_reducible apply R.tb'   | with_reducible apply R.isbl   | with_reducible apply R.cmp   | with_reducible apply R.t2i   | with_reducible apply R.intp   | with_reducible apply R.and   | with_reducible apply R.or   | with_reducible apply R.not   | with_reducible apply R.andV   | with_reducible apply R.orV   | with_reducible apply R.notV   | with_reducible apply R.chain   | with_reducible apply R.tupL   | with_reducible apply R.lstL   | with_reducible apply R.cat   | with_reducible apply R.absI   | with_reducible apply R.intI   | with_reducible apply R.intB   | with_reducible apply R.eqS   | with_reducible apply R.eqBl   | with_reducible apply R.neBl   | with_reducible apply R.sl   | with_reducible apply R.noPart   | with_reducible apply R.part   | with_reducible apply R.isInt   | with_reducible apply R.slL   | with_reducible apply R.isiT   | with_reducible apply R.isiLst   | with_reducible apply R.nwT   | with_reducible apply R.nwL   | ((with_reducible apply R.mt); intro HN tn sn nn ht)   | ((with_reducible apply R.ml); intro HN tn sn nn ht)   | ((with_reducible apply R.isiTupS); focus ((repeat' (first | with_reducible assumption | with_reducible apply hU | ((with_reducible apply SqT.of); with_reducible assumption) | ((with_reducible apply same_seqT); with_reducible assumption) | ((with_reducible apply kp_seqT); with_reducible assumption) | ((with_reducible apply Dw.same); with_reducible assumption))); done))   | ((with_reducible apply R.ne4); focus ((repeat' (first | with_reducible assumption | with_reducible apply hU | ((with_reducible apply SqT.of); with_reducible assumption) | ((with_reducible apply same_seqT); with_reducible assumption) | ((with_reducible apply kp_seqT); with_reducible assumption) | ((with_reducible apply Dw.same); with_reducible assumption))); done))   | ((with_reducible apply R.ne3); focus ((repeat' (first | with_reducible assumption | with_reducible apply hU | ((with_reducible apply SqT.of); with_reducible assumption) | ((with_reducible apply same_seqT); with_reducible assumption) | ((with_reducible apply kp_seqT); with_reducible assumption) | ((with_reducible apply Dw.same); with_reducible assumption))); done))   | ((with_reducible apply R.ne2); focus ((repeat' (first | with_reducible assumption | with_reducible apply hU | ((with_reducible apply SqT.of); with_reducible assumption) | ((with_reducible apply same_seqT); with_reducible assumption) | ((with_reducible apply kp_seqT); with_reducible assumption) | ((with_reducible apply Dw.same); with_reducible assumption))); done))   | ((with_reducible apply R.eq4); focus ((repeat' (first | with_reducible assumption | with_reducible apply hU | ((with_reducible apply SqT.of); with_reducible assumption) | ((with_reducible apply same_seqT); with_reducible assumption) | ((with_reducible apply kp_seqT); with_reducible assumption) | ((with_reducible apply Dw.same); with_reducible assumption))); done))   | ((with_reducible apply R.eq3); focus ((repeat' (first | with_reducible assumption | with_reducible apply hU | ((with_reducible apply SqT.of); with_reducible assumption) | ((with_reducible apply same_seqT); with_reducible assumption) | ((with_reducible apply kp_seqT); with_reducible assumption) | ((with_reducible apply Dw.same); with_reducible assumption))); done))   | ((with_reducible apply R.eq2); focus ((repeat' (first | with_reducible assumption | with_reducible apply hU | ((with_reducible apply SqT.of); with_reducible assumption) | ((with_reducible apply same_seqT); with_reducible assumption) | ((with_reducible apply kp_seqT); with_reducible assumption) | ((with_reducible apply Dw.same); with_reducible assumption))); done))   | with_reducible apply uLawNext   | with_reducible apply uLawWide   | with_reducible apply uValueAt   | with_reducible apply uIsSquare   | ((with_reducible apply R.nw); intro HN tn sn ht)   | with_reducible apply iteT   | with_reducible apply iteF   | with_reducible apply R.notT   | with_reducible apply R.notF   | ((with_reducible apply SqT.of); with_reducible assumption)   | ((with_reducible apply SqL.of); with_reducible assumption)   | ((with_reducible apply same_seqT); with_reducible assumption)   | ((with_reducible apply sameB); with_reducible assumption)   | ((with_reducible apply same_at); with_reducible assumption)   | ((with_reducible apply kp_seqT); with_reducible assumption)   | ((with_reducible apply Same.seq); with_reducible assumption)   | ((with_reducible apply Kp.seqL); with_reducible assumption)   | ((with_reducible apply fresh_ne); with_reducible assumption)   | ((with_reducible apply Dw.same); with_reducible assumption)   | ((with_reducible apply R.isEq); exact eq_true (by first | decide | omega))   | ((with_reducible apply R.isLt); first | decide | omega)   | ((with_reducible apply R.isLtI); first | decide | omega)   | ((with_reducible apply R.isLeI); first | decide | omega)   | ((with_reducible apply R.cdiv); exact rfl)   | ((with_reducible apply R.cpow); exact rfl)   | with_reducible apply R.cdivX   | ((with_reducible apply R.isNe); omega)   | with_reducible apply hU   | ((with_reducible apply wayNF); first | exact rfl | exact ⟨rfl, rfl⟩ | exact ⟨rfl, rfl, rfl⟩ | exact ⟨rfl, rfl, rfl, rfl⟩)   | with_reducible apply R.bm   | ((with_reducible apply R.bmT); (focus ((first | with_reducible assumption | ((with_reducible apply same_at); with_reducible assumption) | ((with_reducible apply kp_at); with_reducible assumption)); done)))   | with_reducible apply R.dput   | with_reducible apply R.dget   | with_reducible apply R.din   | with_reducible apply R.dget2   | with_reducible apply R.forE   | with_reducible apply R.rng1   | with_reducible apply R.rng2   | with_reducible apply R.rg1   | with_reducible apply R.rg2   | with_reducible apply R.lcE   | with_reducible apply R.itup   | with_reducible apply R.ilst   )))
            repeat' (first
              | with_reducible apply R.var
              | with_reducible apply R.gsE
              | ((with_reducible apply R.gsN); (focus exact rfl))
              | with_reducible apply R.lenS
              | ((with_reducible apply R.lenB); exact rfl)
              | ((with_reducible apply R.isEq); exact rfl)
              | with_reducible apply R.op
              | with_reducible apply R.i2
              | with_reducible apply R.i0
              | with_reducible apply R.con
              | with_reducible apply R.cons
              | with_reducible apply R.nil
              | with_reducible apply R.gcons
              | with_reducible apply R.gname
              | ((with_reducible apply R.ixT); (focus ((repeat' (first | with_reducible assumption | with_reducible apply hU | ((with_reducible apply SqT.of); with_reducible assumption) | ((with_reducible apply same_seqT); with_reducible assumption) | ((with_reducible apply kp_seqT); with_reducible assumption) | ((with_reducible apply Dw.same); with_reducible assumption))); done)); exact rfl)
              | ((with_reducible apply R.ixL); (focus ((repeat' (first | with_reducible assumption | ((with_reducible apply SqL.of); with_reducible assumption) | ((with_reducible apply Same.seq); with_reducible assumption) | ((with_reducible apply Kp.seqL); with_reducible assumption) | ((with_reducible apply fresh_ne); with_reducible assumption) | ((with_reducible apply Dw.same); with_reducible assumption))); done)); exact rfl)
              | with_reducible assumption
              | with_reducible apply Bd.mulW
              | with_reducible apply Bd.mul
              | with_reducible apply Bd.add
              | with_reducible apply Bd.sub
              | ((with_reducible apply Bd.l8); exact eq_true (by decide))
              | ((with_reducible apply Bd.lit); exact eq_true (by decide))
              | with_reducible apply Bd.neg
              | with_reducible apply Bd.div
              | with_reducible apply Bd.abs
              | with_reducible apply Bd.mod
              | with_reducible apply Bd.fdiv
              | ((with_reducible apply Bd.om); omega)
              | ((with_reducible apply R.isLe); first | decide | omega)
              | with_reducible apply R.un
              | with_reducible apply R.u1
              | with_reducible apply R.tup
              | with_reducible apply R.lst
              | with_reducible apply R.call
              | with_reducible apply R.callB
              | with_reducible apply R.gtup
              | with_reducible apply R.gnil
              | with_reducible apply R.seq
              | with_reducible apply R.asg
              | with_reducible apply R.ret
              | with_reducible apply R.brk
              | with_reducible apply R.cont
              | with_reducible apply R.next
              | with_reducible apply R.drop
              | with_reducible apply R.par
              | with_reducible apply R.par2
              | with_reducible apply R.ifs
              | with_reducible apply R.tif
              | with_reducible apply R.test
              | with_reducible apply R.tb'
              | with_reducible apply R.isbl
              | with_reducible apply R.cmp
              | with_reducible apply R.t2i
              | with_reducible apply R.intp
              | with_reducible apply R.and
              | with_reducible apply R.or
              | with_reducible apply R.not
              | with_reducible apply R.andV
              | with_reducible apply R.orV
              | with_reducible apply R.notV
              | with_reducible apply R.chain
              | with_reducible apply R.tupL
              | with_reducible apply R.lstL
              | with_reducible apply R.cat
              | with_reducible apply R.absI
              | with_reducible apply R.intI
              | with_reducible apply R.intB
              | with_reducible apply R.eqS
              | with_reducible apply R.eqBl
              | with_reducible apply R.neBl
              | with_reducible apply R.sl
              | with_reducible apply R.noPart
              | with_reducible apply R.part
              | with_reducible apply R.isInt
              | with_reducible apply R.slL
              | with_reducible apply R.isiT
              | with_reducible apply R.isiLst
              | with_reducible apply R.nwT
              | with_reducible apply R.nwL
              | ((with_reducible apply R.mt); intro HN tn sn nn ht)
              | ((with_reducible apply R.ml); intro HN tn sn nn ht)
              | ((with_reducible apply R.isiTupS); focus ((repeat' (first | with_reducible assumption | with_reducible apply hU | ((with_reducible apply SqT.of); with_reducible assumption) | ((with_reducible apply same_seqT); with_reducible assumption) | ((with_reducible apply kp_seqT); with_reducible assumption) | ((with_reducible apply Dw.same); with_reducible assumption))); done))
              | ((with_reducible apply R.ne4); focus ((repeat' (first | with_reducible assumption | with_reducible apply hU | ((with_reducible apply SqT.of); with_reducible assumption) | ((with_reducible apply same_seqT); with_reducible assumption) | ((with_reducible apply kp_seqT); with_reducible assumption) | ((with_reducible apply Dw.same); with_reducible assumption))); done))
              | ((with_reducible apply R.ne3); focus ((repeat' (first | with_reducible assumption | with_reducible apply hU | ((with_reducible apply SqT.of); with_reducible assumption) | ((with_reducible apply same_seqT); with_reducible assumption) | ((with_reducible apply kp_seqT); with_reducible assumption) | ((with_reducible apply Dw.same); with_reducible assumption))); done))
              | ((with_reducible apply R.ne2); focus ((repeat' (first | with_reducible assumption | with_reducible apply hU | ((with_reducible apply SqT.of); with_reducible assumption) | ((with_reducible apply same_seqT); with_reducible assumption) | ((with_reducible apply kp_seqT); with_reducible assumption) | ((with_reducible apply Dw.same); with_reducible assumption))); done))
              | ((with_reducible apply R.eq4); focus ((repeat' (first | with_reducible assumption | with_reducible apply hU | ((with_reducible apply SqT.of); with_reducible assumption) | ((with_reducible apply same_seqT); with_reducible assumption) | ((with_reducible apply kp_seqT); with_reducible assumption) | ((with_reducible apply Dw.same); with_reducible assumption))); done))
              | ((with_reducible apply R.eq3); focus ((repeat' (first | with_reducible assumption | with_reducible apply hU | ((with_reducible apply SqT.of); with_reducible assumption) | ((with_reducible apply same_seqT); with_reducible assumption) | ((with_reducible apply kp_seqT); with_reducible assumption) | ((with_reducible apply Dw.same); with_reducible assumption))); done))
              | ((with_reducible apply R.eq2); focus ((repeat' (first | with_reducible assumption | with_reducible apply hU | ((with_reducible apply SqT.of); with_reducible assumption) | ((with_reducible apply same_seqT); with_reducible assumption) | ((with_reducible apply kp_seqT); with_reducible assumption) | ((with_reducible apply Dw.same); with_reducible assumption))); done))
              | with_reducible apply uLawNext
              | with_reducible apply uLawWide
              | with_reducible apply uValueAt
              | with_reducible apply uIsSquare
              | ((with_reducible apply R.nw); intro HN tn sn ht)
              | with_reducible apply iteT
              | with_reducible apply iteF
              | with_reducible apply R.notT
              | with_reducible apply R.notF
              | ((with_reducible apply SqT.of); with_reducible assumption)
              | ((with_reducible apply SqL.of); with_reducible assumption)
              | ((with_reducible apply same_seqT); with_reducible assumption)
              | ((with_reducible apply sameB); with_reducible assumption)
              | ((with_reducible apply same_at); with_reducible assumption)
              | ((with_reducible apply kp_seqT); with_reducible assumption)
              | ((with_reducible apply Same.seq); with_reducible assumption)
              | ((with_reducible apply Kp.seqL); with_reducible assumption)
              | ((with_reducible apply fresh_ne); with_reducible assumption)
              | ((with_reducible apply Dw.same); with_reducible assumption)
              | ((with_reducible apply R.isEq); exact eq_true (by first | decide | omega))
              | ((with_reducible apply R.isLt); first | decide | omega)
              | ((with_reducible apply R.isLtI); first | decide | omega)
              | ((with_reducible apply R.isLeI); first | decide | omega)
              | ((with_reducible apply R.cdiv); exact rfl)
              | ((with_reducible apply R.cpow); exact rfl)
              | with_reducible apply R.cdivX
              | ((with_reducible apply R.isNe); omega)
              | with_reducible apply hU
              | ((with_reducible apply wayNF); first | exact rfl | exact ⟨rfl, rfl⟩ | exact ⟨rfl, rfl, rfl⟩ | exact ⟨rfl, rfl, rfl, rfl⟩)
              | with_reducible apply R.bm
              | ((with_reducible apply R.bmT); (focus ((first | with_reducible assumption | ((with_reducible apply same_at); with_reducible assumption) | ((with_reducible apply kp_at); with_reducible assumption)); done)))
              | with_reducible apply R.dput
              | with_reducible apply R.dget
              | with_reducible apply R.din
              | with_reducible apply R.dget2
              | with_reducible apply R.forE
              | with_reducible apply R.rng1
              | with_reducible apply R.rng2
              | with_reducible apply R.rg1
              | with_reducible apply R.rg2
              | with_reducible apply R.lcE
              | with_reducible apply R.itup
              | with_reducible apply R.ilst
              )
            refine ⟨rfl, ?_⟩
            repeat' (first
              | with_reducible apply R.var
              | with_reducible apply R.gsE
              | ((with_reducible apply R.gsN); (focus exact rfl))
              | with_reducible apply R.lenS
              | ((with_reducible apply R.lenB); exact rfl)
              | ((with_reducible apply R.isEq); exact rfl)
              | with_reducible apply R.op
              | with_reducible apply R.i2
              | with_reducible apply R.i0
              | with_reducible apply R.con
              | with_reducible apply R.cons
              | with_reducible apply R.nil
              | with_reducible apply R.gcons
              | with_reducible apply R.gname
              | ((with_reducible apply R.ixT); (focus ((repeat' (first | with_reducible assumption | with_reducible apply hU | ((with_reducible apply SqT.of); with_reducible assumption) | ((with_reducible apply same_seqT); with_reducible assumption) | ((with_reducible apply kp_seqT); with_reducible assumption) | ((with_reducible apply Dw.same); with_reducible assumption))); done)); exact rfl)
              | ((with_reducible apply R.ixL); (focus ((repeat' (first | with_reducible assumption | ((with_reducible apply SqL.of); with_reducible assumption) | ((with_reducible apply Same.seq); with_reducible assumption) | ((with_reducible apply Kp.seqL); with_reducible assumption) | ((with_reducible apply fresh_ne); with_reducible assumption) | ((with_reducible apply Dw.same); with_reducible assumption))); done)); exact rfl)
              | with_reducible assumption
              | with_reducible apply Bd.mulW
              | with_reducible apply Bd.mul
              | with_reducible apply Bd.add
              | with_reducible apply Bd.sub
              | ((with_reducible apply Bd.l8); exact eq_true (by decide))
              | ((with_reducible apply Bd.lit); exact eq_true (by decide))
              | with_reducible apply Bd.neg
              | with_reducible apply Bd.div
              | with_reducible apply Bd.abs
              | with_reducible apply Bd.mod
              | with_reducible apply Bd.fdiv
              | ((with_reducible apply Bd.om); omega)
              | ((with_reducible apply R.isLe); first | decide | omega)
              | with_reducible apply R.un
              | with_reducible apply R.u1
              | with_reducible apply R.tup
              | with_reducible apply R.lst
              | with_reducible apply R.call
              | with_reducible apply R.callB
              | with_reducible apply R.gtup
              | with_reducible apply R.gnil
              | with_reducible apply R.seq
              | with_reducible apply R.asg
              | with_reducible apply R.ret
              | with_reducible apply R.brk
              | with_reducible apply R.cont
              | with_reducible apply R.next
              | with_reducible apply R.drop
              | with_reducible apply R.par
              | with_reducible apply R.par2
              | with_reducible apply R.ifs
              | with_reducible apply R.tif
              | with_reducible apply R.test
              | with_reducible apply R.tb'
              | with_reducible apply R.isbl
              | with_reducible apply R.cmp
              | with_reducible apply R.t2i
              | with_reducible apply R.intp
              | with_reducible apply R.and
              | with_reducible apply R.or
              | with_reducible apply R.not
              | with_reducible apply R.andV
              | with_reducible apply R.orV
              | with_reducible apply R.notV
              | with_reducible apply R.chain
              | with_reducible apply R.tupL
              | with_reducible apply R.lstL
              | with_reducible apply R.cat
              | with_reducible apply R.absI
              | with_reducible apply R.intI
              | with_reducible apply R.intB
              | with_reducible apply R.eqS
              | with_reducible apply R.eqBl
              | with_reducible apply R.neBl
              | with_reducible apply R.sl
              | with_reducible apply R.noPart
              | with_reducible apply R.part
              | with_reducible apply R.isInt
              | with_reducible apply R.slL
              | with_reducible apply R.isiT
              | with_reducible apply R.isiLst
              | with_reducible apply R.nwT
              | with_reducible apply R.nwL
              | ((with_reducible apply R.mt); intro HN tn sn nn ht)
              | ((with_reducible apply R.ml); intro HN tn sn nn ht)
              | ((with_reducible apply R.isiTupS); focus ((repeat' (first | with_reducible assumption | with_reducible apply hU | ((with_reducible apply SqT.of); with_reducible assumption) | ((with_reducible apply same_seqT); with_reducible assumption) | ((with_reducible apply kp_seqT); with_reducible assumption) | ((with_reducible apply Dw.same); with_reducible assumption))); done))
              | ((with_reducible apply R.ne4); focus ((repeat' (first | with_reducible assumption | with_reducible apply hU | ((with_reducible apply SqT.of); with_reducible assumption) | ((with_reducible apply same_seqT); with_reducible assumption) | ((with_reducible apply kp_seqT); with_reducible assumption) | ((with_reducible apply Dw.same); with_reducible assumption))); done))
              | ((with_reducible apply R.ne3); focus ((repeat' (first | with_reducible assumption | with_reducible apply hU | ((with_reducible apply SqT.of); with_reducible assumption) | ((with_reducible apply same_seqT); with_reducible assumption) | ((with_reducible apply kp_seqT); with_reducible assumption) | ((with_reducible apply Dw.same); with_reducible assumption))); done))
              | ((with_reducible apply R.ne2); focus ((repeat' (first | with_reducible assumption | with_reducible apply hU | ((with_reducible apply SqT.of); with_reducible assumption) | ((with_reducible apply same_seqT); with_reducible assumption) | ((with_reducible apply kp_seqT); with_reducible assumption) | ((with_reducible apply Dw.same); with_reducible assumption))); done))
              | ((with_reducible apply R.eq4); focus ((repeat' (first | with_reducible assumption | with_reducible apply hU | ((with_reducible apply SqT.of); with_reducible assumption) | ((with_reducible apply same_seqT); with_reducible assumption) | ((with_reducible apply kp_seqT); with_reducible assumption) | ((with_reducible apply Dw.same); with_reducible assumption))); done))
              | ((with_reducible apply R.eq3); focus ((repeat' (first | with_reducible assumption | with_reducible apply hU | ((with_reducible apply SqT.of); with_reducible assumption) | ((with_reducible apply same_seqT); with_reducible assumption) | ((with_reducible apply kp_seqT); with_reducible assumption) | ((with_reducible apply Dw.same); with_reducible assumption))); done))
              | ((with_reducible apply R.eq2); focus ((repeat' (first | with_reducible assumption | with_reducible apply hU | ((with_reducible apply SqT.of); with_reducible assumption) | ((with_reducible apply same_seqT); with_reducible assumption) | ((with_reducible apply kp_seqT); with_reducible assumption) | ((with_reducible apply Dw.same); with_reducible assumption))); done))
              | with_reducible apply uLawNext
              | with_reducible apply uLawWide
              | with_reducible apply uValueAt
              | with_reducible apply uIsSquare
              | ((with_reducible apply R.nw); intro HN tn sn ht)
              | with_reducible apply iteT
              | with_reducible apply iteF
              | with_reducible apply R.notT
              | with_reducible apply R.notF
              | ((with_reducible apply SqT.of); with_reducible assumption)
              | ((with_reducible apply SqL.of); with_reducible assumption)
              | ((with_reducible apply same_seqT); with_reducible assumption)
              | ((with_reducible apply sameB); with_reducible assumption)
              | ((with_reducible apply same_at); with_reducible assumption)
              | ((with_reducible apply kp_seqT); with_reducible assumption)
              | ((with_reducible apply Same.seq); with_reducible assumption)
              | ((with_reducible apply Kp.seqL); with_reducible assumption)
              | ((with_reducible apply fresh_ne); with_reducible assumption)
              | ((with_reducible apply Dw.same); with_reducible assumption)
              | ((with_reducible apply R.isEq); exact eq_true (by first | decide | omega))
              | ((with_reducible apply R.isLt); first | decide | omega)
              | ((with_reducible apply R.isLtI); first | decide | omega)
              | ((with_reducible apply R.isLeI); first | decide | omega)
              | ((with_reducible apply R.cdiv); exact rfl)
              | ((with_reducible apply R.cpow); exact rfl)
              | with_reducible apply R.cdivX
              | ((with_reducible apply R.isNe); omega)
              | with_reducible apply hU
              | ((with_reducible apply wayNF); first | exact rfl | exact ⟨rfl, rfl⟩ | exact ⟨rfl, rfl, rfl⟩ | exact ⟨rfl, rfl, rfl, rfl⟩)
              | with_reducible apply R.bm
              | ((with_reducible apply R.bmT); (focus ((first | with_reducible assumption | ((with_reducible apply same_at); with_reducible assumption) | ((with_reducible apply kp_at); with_reducible assumption)); done)))
              | with_reducible apply R.dput
              | with_reducible apply R.dget
              | with_reducible apply R.din
              | with_reducible apply R.dget2
              | with_reducible apply R.forE
              | with_reducible apply R.rng1
              | with_reducible apply R.rng2
              | with_reducible apply R.rg1
              | with_reducible apply R.rg2
              | with_reducible apply R.lcE
              | with_reducible apply R.itup
              | with_reducible apply R.ilst
              )
            refine way2 (fun h => ?_) (fun h => ?_)
            · skip
              repeat' (first
                | with_reducible apply R.var
                | with_reducible apply R.gsE
                | ((with_reducible apply R.gsN); (focus exact rfl))
                | with_reducible apply R.lenS
                | ((with_reducible apply R.lenB); exact rfl)
                | ((with_reducible apply R.isEq); exact rfl)
                | with_reducible apply R.op
                | with_reducible apply R.i2
                | with_reducible apply R.i0
                | with_reducible apply R.con
                | with_reducible apply R.cons
                | with_reducible apply R.nil
                | with_reducible apply R.gcons
                | with_reducible apply R.gname
                | ((with_reducible apply R.ixT); (focus ((repeat' (first | with_reducible assumption | with_reducible apply hU | ((with_reducible apply SqT.of); with_reducible assumption) | ((with_reducible apply same_seqT); with_reducible assumption) | ((with_reducible apply kp_seqT); with_reducible assumption) | ((with_reducible apply Dw.same); with_reducible assumption))); done)); exact rfl)
                | ((with_reducible apply R.ixL); (focus ((repeat' (first | with_reducible assumption | ((with_reducible apply SqL.of); with_reducible assumption) | ((with_reducible apply Same.seq); with_reducible assumption) | ((with_reducible apply Kp.seqL); with_reducible assumption) | ((with_reducible apply fresh_ne); with_reducible assumption) | ((with_reducible apply Dw.same); with_reducible assumption))); done)); exact rfl)
                | with_reducible assumption
                | with_reducible apply Bd.mulW
                | with_reducible apply Bd.mul
                | with_reducible apply Bd.add
                | with_reducible apply Bd.sub
                | ((with_reducible apply Bd.l8); exact eq_true (by decide))
                | ((with_reducible apply Bd.lit); exact eq_true (by decide))
                | with_reducible apply Bd.neg
                | with_reducible apply Bd.div
                | with_reducible apply Bd.abs
                | with_reducible apply Bd.mod
                | with_reducible apply Bd.fdiv
                | ((with_reducible apply Bd.om); omega)
                | ((with_reducible apply R.isLe); first | decide | omega)
                | with_reducible apply R.un
                | with_reducible apply R.u1
                | with_reducible apply R.tup
                | with_reducible apply R.lst
                | with_reducible apply R.call
                | with_reducible apply R.callB
                | with_reducible apply R.gtup
                | with_reducible apply R.gnil
                | with_reducible apply R.seq
                | with_reducible apply R.asg
                | with_reducible apply R.ret
                | with_reducible apply R.brk
                | with_reducible apply R.cont
                | with_reducible apply R.next
                | with_reducible apply R.drop
                | with_reducible apply R.par
                | with_reducible apply R.par2
                | with_reducible apply R.ifs
                | with_reducible apply R.tif
                | with_reducible apply R.test
                | with_reducible apply R.tb'
                | with_reducible apply R.isbl
                | with_reducible apply R.cmp
                | with_reducible apply R.t2i
                | with_reducible apply R.intp
                | with_reducible apply R.and
                | with_reducible apply R.or
                | with_reducible apply R.not
                | with_reducible apply R.andV
                | with_reducible apply R.orV
                | with_reducible apply R.notV
                | with_reducible apply R.chain
                | with_reducible apply R.tupL
                | with_reducible apply R.lstL
                | with_reducible apply R.cat
                | with_reducible apply R.absI
                | with_reducible apply R.intI
                | with_reducible apply R.intB
                | with_reducible apply R.eqS
                | with_reducible apply R.eqBl
                | with_reducible apply R.neBl
                | with_reducible apply R.sl
                | with_reducible apply R.noPart
                | with_reducible apply R.part
                | with_reducible apply R.isInt
                | with_reducible apply R.slL
                | with_reducible apply R.isiT
                | with_reducible apply R.isiLst
                | with_reducible apply R.nwT
                | with_reducible apply R.nwL
                | ((with_reducible apply R.mt); intro HN tn sn nn ht)
                | ((with_reducible apply R.ml); intro HN tn sn nn ht)
                | ((with_reducible apply R.isiTupS); focus ((repeat' (first | with_reducible assumption | with_reducible apply hU | ((with_reducible apply SqT.of); with_reducible assumption) | ((with_reducible apply same_seqT); with_reducible assumption) | ((with_reducible apply kp_seqT); with_reducible assumption) | ((with_reducible apply Dw.same); with_reducible assumption))); done))
                | ((with_reducible apply R.ne4); focus ((repeat' (first | with_reducible assumption | with_reducible apply hU | ((with_reducible apply SqT.of); with_reducible assumption) | ((with_reducible apply same_seqT); with_reducible assumption) | ((with_reducible apply kp_seqT); with_reducible assumption) | ((with_reducible apply Dw.same); with_reducible assumption))); done))
                | ((with_reducible apply R.ne3); focus ((repeat' (first | with_reducible assumption | with_reducible apply hU | ((with_reducible apply SqT.of); with_reducible assumption) | ((with_reducible apply same_seqT); with_reducible assumption) | ((with_reducible apply kp_seqT); with_reducible assumption) | ((with_reducible apply Dw.same); with_reducible assumption))); done))
                | ((with_reducible apply R.ne2); focus ((repeat' (first | with_reducible assumption | with_reducible apply hU | ((with_reducible apply SqT.of); with_reducible assumption) | ((with_reducible apply same_seqT); with_reducible assumption) | ((with_reducible apply kp_seqT); with_reducible assumption) | ((with_reducible apply Dw.same); with_reducible assumption))); done))
                | ((with_reducible apply R.eq4); focus ((repeat' (first | with_reducible assumption | with_reducible apply hU | ((with_reducible apply SqT.of); with_reducible assumption) | ((with_reducible apply same_seqT); with_reducible assumption) | ((with_reducible apply kp_seqT); with_reducible assumption) | ((with_reducible apply Dw.same); with_reducible assumption))); done))
                | ((with_reducible apply R.eq3); focus ((repeat' (first | with_reducible assumption | with_reducible apply hU | ((with_reducible apply SqT.of); with_reducible assumption) | ((with_reducible apply same_seqT); with_reducible assumption) | ((with_reducible apply kp_seqT); with_reducible assumption) | ((with_reducible apply Dw.same); with_reducible assumption))); done))
                | ((with_reducible apply R.eq2); focus ((repeat' (first | with_reducible assumption | with_reducible apply hU | ((with_reducible apply SqT.of); with_reducible assumption) | ((with_reducible apply same_seqT); with_reducible assumption) | ((with_reducible apply kp_seqT); with_reducible assumption) | ((with_reducible apply Dw.same); with_reducible assumption))); done))
                | with_reducible apply uLawNext
                | with_reducible apply uLawWide
                | with_reducible apply uValueAt
                | with_reducible apply uIsSquare
                | ((with_reducible apply R.nw); intro HN tn sn ht)
                | with_reducible apply iteT
                | with_reducible apply iteF
                | with_reducible apply R.notT
                | with_reducible apply R.notF
                | ((with_reducible apply SqT.of); with_reducible assumption)
                | ((with_reducible apply SqL.of); with_reducible assumption)
                | ((with_reducible apply same_seqT); with_reducible assumption)
                | ((with_reducible apply sameB); with_reducible assumption)
                | ((with_reducible apply same_at); with_reducible assumption)
                | ((with_reducible apply kp_seqT); with_reducible assumption)
                | ((with_reducible apply Same.seq); with_reducible assumption)
                | ((with_reducible apply Kp.seqL); with_reducible assumption)
                | ((with_reducible apply fresh_ne); with_reducible assumption)
                | ((with_reducible apply Dw.same); with_reducible assumption)
                | ((with_reducible apply R.isEq); exact eq_true (by first | decide | omega))
                | ((with_reducible apply R.isLt); first | decide | omega)
                | ((with_reducible apply R.isLtI); first | decide | omega)
                | ((with_reducible apply R.isLeI); first | decide | omega)
                | ((with_reducible apply R.cdiv); exact rfl)
                | ((with_reducible apply R.cpow); exact rfl)
                | with_reducible apply R.cdivX
                | ((with_reducible apply R.isNe); omega)
                | with_reducible apply hU
                | ((with_reducible apply wayNF); first | exact rfl | exact ⟨rfl, rfl⟩ | exact ⟨rfl, rfl, rfl⟩ | exact ⟨rfl, rfl, rfl, rfl⟩)
                | with_reducible apply R.bm
                | ((with_reducible apply R.bmT); (focus ((first | with_reducible assumption | ((with_reducible apply same_at); with_reducible assumption) | ((with_reducible apply kp_at); with_reducible assumption)); done)))
                | with_reducible apply R.dput
                | with_reducible apply R.dget
                | with_reducible apply R.din
                | with_reducible apply R.dget2
                | with_reducible apply R.forE
                | with_reducible apply R.rng1
                | with_reducible apply R.rng2
                | with_reducible apply R.rg1
                | with_reducible apply R.rg2
                | with_reducible apply R.lcE
                | with_reducible apply R.itup
                | with_reducible apply R.ilst
                )
              exact c1 (decide_eq_true h)
            · exact c2 (decide_eq_false h)
          · skip
            repeat' (first
              | with_reducible apply R.var
              | with_reducible apply R.gsE
              | ((with_reducible apply R.gsN); (focus exact rfl))
              | with_reducible apply R.lenS
              | ((with_reducible apply R.lenB); exact rfl)
              | ((with_reducible apply R.isEq); exact rfl)
              | with_reducible apply R.op
              | with_reducible apply R.i2
              | with_reducible apply R.i0
              | with_reducible apply R.con
              | with_reducible apply R.cons
              | with_reducible apply R.nil
              | with_reducible apply R.gcons
              | with_reducible apply R.gname
              | ((with_reducible apply R.ixT); (focus ((repeat' (first | with_reducible assumption | with_reducible apply hU | ((with_reducible apply SqT.of); with_reducible assumption) | ((with_reducible apply same_seqT); with_reducible assumption) | ((with_reducible apply kp_seqT); with_reducible assumption) | ((with_reducible apply Dw.same); with_reducible assumption))); done)); exact rfl)
              | ((with_reducible apply R.ixL); (focus ((repeat' (first | with_reducible assumption | ((with_reducible apply SqL.of); with_reducible assumption) | ((with_reducible apply Same.seq); with_reducible assumption) | ((with_reducible apply Kp.seqL); with_reducible assumption) | ((with_reducible apply fresh_ne); with_reducible assumption) | ((with_reducible apply Dw.same); with_reducible assumption))); done)); exact rfl)
              | with_reducible assumption
              | with_reducible apply Bd.mulW
              | with_reducible apply Bd.mul
              | with_reducible apply Bd.add
              | with_reducible apply Bd.sub
              | ((with_reducible apply Bd.l8); exact eq_true (by decide))
              | ((with_reducible apply Bd.lit); exact eq_true (by decide))
              | with_reducible apply Bd.neg
              | with_reducible apply Bd.div
              | with_reducible apply Bd.abs
              | with_reducible apply Bd.mod
              | with_reducible apply Bd.fdiv
              | ((with_reducible apply Bd.om); omega)
              | ((with_reducible apply R.isLe); first | decide | omega)
              | with_reducible apply R.un
              | with_reducible apply R.u1
              | with_reducible apply R.tup
              | with_reducible apply R.lst
              | with_reducible apply R.call
              | with_reducible apply R.callB
              | with_reducible apply R.gtup
              | with_reducible apply R.gnil
              | with_reducible apply R.seq
              | with_reducible apply R.asg
              | with_reducible apply R.ret
              | with_reducible apply R.brk
              | with_reducible apply R.cont
              | with_reducible apply R.next
              | with_reducible apply R.drop
              | with_reducible apply R.par
              | with_reducible apply R.par2
              | with_reducible apply R.ifs
              | with_reducible apply R.tif
              | with_reducible apply R.test
              | with_reducible apply R.tb'
              | with_reducible apply R.isbl
              | with_reducible apply R.cmp
              | with_reducible apply R.t2i
              | with_reducible apply R.intp
              | with_reducible apply R.and
              | with_reducible apply R.or
              | with_reducible apply R.not
              | with_reducible apply R.andV
              | with_reducible apply R.orV
              | with_reducible apply R.notV
              | with_reducible apply R.chain
              | with_reducible apply R.tupL
              | with_reducible apply R.lstL
              | with_reducible apply R.cat
              | with_reducible apply R.absI
              | with_reducible apply R.intI
              | with_reducible apply R.intB
              | with_reducible apply R.eqS
              | with_reducible apply R.eqBl
              | with_reducible apply R.neBl
              | with_reducible apply R.sl
              | with_reducible apply R.noPart
              | with_reducible apply R.part
              | with_reducible apply R.isInt
              | with_reducible apply R.slL
              | with_reducible apply R.isiT
              | with_reducible apply R.isiLst
              | with_reducible apply R.nwT
              | with_reducible apply R.nwL
              | ((with_reducible apply R.mt); intro HN tn sn nn ht)
              | ((with_reducible apply R.ml); intro HN tn sn nn ht)
              | ((with_reducible apply R.isiTupS); focus ((repeat' (first | with_reducible assumption | with_reducible apply hU | ((with_reducible apply SqT.of); with_reducible assumption) | ((with_reducible apply same_seqT); with_reducible assumption) | ((with_reducible apply kp_seqT); with_reducible assumption) | ((with_reducible apply Dw.same); with_reducible assumption))); done))
              | ((with_reducible apply R.ne4); focus ((repeat' (first | with_reducible assumption | with_reducible apply hU | ((with_reducible apply SqT.of); with_reducible assumption) | ((with_reducible apply same_seqT); with_reducible assumption) | ((with_reducible apply kp_seqT); with_reducible assumption) | ((with_reducible apply Dw.same); with_reducible assumption))); done))
              | ((with_reducible apply R.ne3); focus ((repeat' (first | with_reducible assumption | with_reducible apply hU | ((with_reducible apply SqT.of); with_reducible assumption) | ((with_reducible apply same_seqT); with_reducible assumption) | ((with_reducible apply kp_seqT); with_reducible assumption) | ((with_reducible apply Dw.same); with_reducible assumption))); done))
              | ((with_reducible apply R.ne2); focus ((repeat' (first | with_reducible assumption | with_reducible apply hU | ((with_reducible apply SqT.of); with_reducible assumption) | ((with_reducible apply same_seqT); with_reducible assumption) | ((with_reducible apply kp_seqT); with_reducible assumption) | ((with_reducible apply Dw.same); with_reducible assumption))); done))
              | ((with_reducible apply R.eq4); focus ((repeat' (first | with_reducible assumption | with_reducible apply hU | ((with_reducible apply SqT.of); with_reducible assumption) | ((with_reducible apply same_seqT); with_reducible assumption) | ((with_reducible apply kp_seqT); with_reducible assumption) | ((with_reducible apply Dw.same); with_reducible assumption))); done))
              | ((with_reducible apply R.eq3); focus ((repeat' (first | with_reducible assumption | with_reducible apply hU | ((with_reducible apply SqT.of); with_reducible assumption) | ((with_reducible apply same_seqT); with_reducible assumption) | ((with_reducible apply kp_seqT); with_reducible assumption) | ((with_reducible apply Dw.same); with_reducible assumption))); done))
              | ((with_reducible apply R.eq2); focus ((repeat' (first | with_reducible assumption | with_reducible apply hU | ((with_reducible apply SqT.of); with_reducible assumption) | ((with_reducible apply same_seqT); with_reducible assumption) | ((with_reducible apply kp_seqT); with_reducible assumption) | ((with_reducible apply Dw.same); with_reducible assumption))); done))
              | with_reducible apply uLawNext
              | with_reducible apply uLawWide
              | with_reducible apply uValueAt
              | with_reducible apply uIsSquare
              | ((with_reducible apply R.nw); intro HN tn sn ht)
              | with_reducible apply iteT
              | with_reducible apply iteF
              | with_reducible apply R.notT
              | with_reducible apply R.notF
              | ((with_reducible apply SqT.of); with_reducible assumption)
              | ((with_reducible apply SqL.of); with_reducible assumption)
              | ((with_reducible apply same_seqT); with_reducible assumption)
              | ((with_reducible apply sameB); with_reducible assumption)
              | ((with_reducible apply same_at); with_reducible assumption)
              | ((with_reducible apply kp_seqT); with_reducible assumption)
              | ((with_reducible apply Same.seq); with_reducible assumption)
              | ((with_reducible apply Kp.seqL); with_reducible assumption)
              | ((with_reducible apply fresh_ne); with_reducible assumption)
              | ((with_reducible apply Dw.same); with_reducible assumption)
              | ((with_reducible apply R.isEq); exact eq_true (by first | decide | omega))
              | ((with_reducible apply R.isLt); first | decide | omega)
              | ((with_reducible apply R.isLtI); first | decide | omega)
              | ((with_reducible apply R.isLeI); first | decide | omega)
              | ((with_reducible apply R.cdiv); exact rfl)
              | ((with_reducible apply R.cpow); exact rfl)
              | with_reducible apply R.cdivX
              | ((with_reducible apply R.isNe); omega)
              | with_reducible apply hU
              | ((with_reducible apply wayNF); first | exact rfl | exact ⟨rfl, rfl⟩ | exact ⟨rfl, rfl, rfl⟩ | exact ⟨rfl, rfl, rfl, rfl⟩)
              | with_reducible apply R.bm
              | ((with_reducible apply R.bmT); (focus ((first | with_reducible assumption | ((with_reducible apply same_at); with_reducible assumption) | ((with_reducible apply kp_at); with_reducible assumption)); done)))
              | with_reducible apply R.dput
              | with_reducible apply R.dget
              | with_reducible apply R.din
              | with_reducible apply R.dget2
              | with_reducible apply R.forE
              | with_reducible apply R.rng1
              | with_reducible apply R.rng2
              | with_reducible apply R.rg1
              | with_reducible apply R.rg2
              | with_reducible apply R.lcE
              | with_reducible apply R.itup
              | with_reducible apply R.ilst
              )
            refine R.srt (SqL.of hD) (fun ns' H2 p pm ps s2 n2 h2 => ?_)
            exact fin ((sn.trans sm).trans s2) (Same.free (sn.trans sm) n2) h2 pm ps
      · rw [decide_eq_false hs]
        repeat' (first
          | with_reducible apply R.var
          | with_reducible apply R.gsE
          | ((with_reducible apply R.gsN); (focus exact rfl))
          | with_reducible apply R.lenS
          | ((with_reducible apply R.lenB); exact rfl)
          | ((with_reducible apply R.isEq); exact rfl)
          | with_reducible apply R.op
          | with_reducible apply R.i2
          | with_reducible apply R.i0
          | with_reducible apply R.con
          | with_reducible apply R.cons
          | with_reducible apply R.nil
          | with_reducible apply R.gcons
          | with_reducible apply R.gname
          | ((with_reducible apply R.ixT); (focus ((repeat' (first | with_reducible assumption | with_reducible apply hU | ((with_reducible apply SqT.of); with_reducible assumption) | ((with_reducible apply same_seqT); with_reducible assumption) | ((with_reducible apply kp_seqT); with_reducible assumption) | ((with_reducible apply Dw.same); with_reducible assumption))); done)); exact rfl)
          | ((with_reducible apply R.ixL); (focus ((repeat' (first | with_reducible assumption | ((with_reducible apply SqL.of); with_reducible assumption) | ((with_reducible apply Same.seq); with_reducible assumption) | ((with_reducible apply Kp.seqL); with_reducible assumption) | ((with_reducible apply fresh_ne); with_reducible assumption) | ((with_reducible apply Dw.same); with_reducible assumption))); done)); exact rfl)
          | with_reducible assumption
          | with_reducible apply Bd.mulW
          | with_reducible apply Bd.mul
          | with_reducible apply Bd.add
          | with_reducible apply Bd.sub
          | ((with_reducible apply Bd.l8); exact eq_true (by decide))
          | ((with_reducible apply Bd.lit); exact eq_true (by decide))
          | with_reducible apply Bd.neg
          | with_reducible apply Bd.div
          | with_reducible apply Bd.abs
          | with_reducible apply Bd.mod
          | with_reducible apply Bd.fdiv
          | ((with_reducible apply Bd.om); omega)
          | ((with_reducible apply R.isLe); first | decide | omega)
          | with_reducible apply R.un
          | with_reducible apply R.u1
          | with_reducible apply R.tup
          | with_reducible apply R.lst
          | with_reducible apply R.call
          | with_reducible apply R.callB
          | with_reducible apply R.gtup
          | with_reducible apply R.gnil
          | with_reducible apply R.seq
          | with_reducible apply R.asg
          | with_reducible apply R.ret
          | with_reducible apply R.brk
          | with_reducible apply R.cont
          | with_reducible apply R.next
          | with_reducible apply R.drop
          | with_reducible apply R.par
          | with_reducible apply R.par2
          | with_reducible apply R.ifs
          | with_reducible apply R.tif
          | with_reducible apply R.test
          | with_reducible apply R.tb'
          | with_reducible apply R.isbl
          | with_reducible apply R.cmp
          | with_reducible apply R.t2i
          | with_reducible apply R.intp
          | with_reducible apply R.and
          | with_reducible apply R.or
          | with_reducible apply R.not
          | with_reducible apply R.andV
          | with_reducible apply R.orV
          | with_reducible apply R.notV
          | with_reducible apply R.chain
          | with_reducible apply R.tupL
          | with_reducible apply R.lstL
          | with_reducible apply R.cat
          | with_reducible apply R.absI
          | with_reducible apply R.intI
          | with_reducible apply R.intB
          | with_reducible apply R.eqS
          | with_reducible apply R.eqBl
          | with_reducible apply R.neBl
          | with_reducible apply R.sl
          | with_reducible apply R.noPart
          | with_reducible apply R.part
          | with_reducible apply R.isInt
          | with_reducible apply R.slL
          | with_reducible apply R.isiT
          | with_reducible apply R.isiLst
          | with_reducible apply R.nwT
          | with_reducible apply R.nwL
          | ((with_reducible apply R.mt); intro HN tn sn nn ht)
          | ((with_reducible apply R.ml); intro HN tn sn nn ht)
          | ((with_reducible apply R.isiTupS); focus ((repeat' (first | with_reducible assumption | with_reducible apply hU | ((with_reducible apply SqT.of); with_reducible assumption) | ((with_reducible apply same_seqT); with_reducible assumption) | ((with_reducible apply kp_seqT); with_reducible assumption) | ((with_reducible apply Dw.same); with_reducible assumption))); done))
          | ((with_reducible apply R.ne4); focus ((repeat' (first | with_reducible assumption | with_reducible apply hU | ((with_reducible apply SqT.of); with_reducible assumption) | ((with_reducible apply same_seqT); with_reducible assumption) | ((with_reducible apply kp_seqT); with_reducible assumption) | ((with_reducible apply Dw.same); with_reducible assumption))); done))
          | ((with_reducible apply R.ne3); focus ((repeat' (first | with_reducible assumption | with_reducible apply hU | ((with_reducible apply SqT.of); with_reducible assumption) | ((with_reducible apply same_seqT); with_reducible assumption) | ((with_reducible apply kp_seqT); with_reducible assumption) | ((with_reducible apply Dw.same); with_reducible assumption))); done))
          | ((with_reducible apply R.ne2); focus ((repeat' (first | with_reducible assumption | with_reducible apply hU | ((with_reducible apply SqT.of); with_reducible assumption) | ((with_reducible apply same_seqT); with_reducible assumption) | ((with_reducible apply kp_seqT); with_reducible assumption) | ((with_reducible apply Dw.same); with_reducible assumption))); done))
          | ((with_reducible apply R.eq4); focus ((repeat' (first | with_reducible assumption | with_reducible apply hU | ((with_reducible apply SqT.of); with_reducible assumption) | ((with_reducible apply same_seqT); with_reducible assumption) | ((with_reducible apply kp_seqT); with_reducible assumption) | ((with_reducible apply Dw.same); with_reducible assumption))); done))
          | ((with_reducible apply R.eq3); focus ((repeat' (first | with_reducible assumption | with_reducible apply hU | ((with_reducible apply SqT.of); with_reducible assumption) | ((with_reducible apply same_seqT); with_reducible assumption) | ((with_reducible apply kp_seqT); with_reducible assumption) | ((with_reducible apply Dw.same); with_reducible assumption))); done))
          | ((with_reducible apply R.eq2); focus ((repeat' (first | with_reducible assumption | with_reducible apply hU | ((with_reducible apply SqT.of); with_reducible assumption) | ((with_reducible apply same_seqT); with_reducible assumption) | ((with_reducible apply kp_seqT); with_reducible assumption) | ((with_reducible apply Dw.same); with_reducible assumption))); done))
          | with_reducible apply uLawNext
          | with_reducible apply uLawWide
          | with_reducible apply uValueAt
          | with_reducible apply uIsSquare
          | ((with_reducible apply R.nw); intro HN tn sn ht)
          | with_reducible apply iteT
          | with_reducible apply iteF
          | with_reducible apply R.notT
          | with_reducible apply R.notF
          | ((with_reducible apply SqT.of); with_reducible assumption)
          | ((with_reducible apply SqL.of); with_reducible assumption)
          | ((with_reducible apply same_seqT); with_reducible assumption)
          | ((with_reducible apply sameB); with_reducible assumption)
          | ((with_reducible apply same_at); with_reducible assumption)
          | ((with_reducible apply kp_seqT); with_reducible assumption)
          | ((with_reducible apply Same.seq); with_reducible assumption)
          | ((with_reducible apply Kp.seqL); with_reducible assumption)
          | ((with_reducible apply fresh_ne); with_reducible assumption)
          | ((with_reducible apply Dw.same); with_reducible assumption)
          | ((with_reducible apply R.isEq); exact eq_true (by first | decide | omega))
          | ((with_reducible apply R.isLt); first | decide | omega)
          | ((with_reducible apply R.isLtI); first | decide | omega)
          | ((with_reducible apply R.isLeI); first | decide | omega)
          | ((with_reducible apply R.cdiv); exact rfl)
          | ((with_reducible apply R.cpow); exact rfl)
          | with_reducible apply R.cdivX
          | ((with_reducible apply R.isNe); omega)
          | with_reducible apply hU
          | ((with_reducible apply wayNF); first | exact rfl | exact ⟨rfl, rfl⟩ | exact ⟨rfl, rfl, rfl⟩ | exact ⟨rfl, rfl, rfl, rfl⟩)
          | with_reducible apply R.bm
          | ((with_reducible apply R.bmT); (focus ((first | with_reducible assumption | ((with_reducible apply same_at); with_reducible assumption) | ((with_reducible apply kp_at); with_reducible assumption)); done)))
          | with_reducible apply R.dput
          | with_reducible apply R.dget
          | with_reducible apply R.din
          | with_reducible apply R.dget2
          | with_reducible apply R.forE
          | with_reducible apply R.rng1
          | with_reducible apply R.rng2
          | with_reducible apply R.rg1
          | with_reducible apply R.rg2
          | with_reducible apply R.lcE
          | with_reducible apply R.itup
          | with_reducible apply R.ilst
          )
        refine kk _ _ [] sn nn ht ⟨.nil, fun t => ?_⟩ (by decide)
        constructor
        · intro h
          cases h
        · intro h
          exact absurd (quad_no h) hs
def spValueAt (K : PySem.W.Frag) : Sp := fun vs H Q _ => ∃ (arow : Addr) (r s t n : Int) (N : Nat), vs = [.ref arow, .int n] ∧ SqT K H arow [.int r, .int s, .int t] ∧ Bd N r ∧ Bd N s ∧ Bd N t ∧ Bd N n ∧ N ≤ 200000 ∧ (Q (.int (r * n * n + s * n + t)) H)
theorem uValueAt {K : PySem.W.Frag} {H : Hp} {Q : VK} {E : XK} {vs : List V} {arow : Addr} {r s t n : Int} {n0 n1 n2 n3 : Nat} (hev : vs = [.ref arow, .int n]) (s0 : SqT K H arow [.int r, .int s, .int t]) (b0 : Bd n0 r) (b1 : Bd n1 s) (b2 : Bd n2 t) (b3 : Bd n3 n) (hll : (n0 + n1 + n2 + n3 ≤ 200000) = True) (kk : Q (.int (r * n * n + s * n + t)) H) : spValueAt K vs H Q E :=
  have hll := of_eq_true hll
  ⟨arow, r, s, t, n, n0 + n1 + n2 + n3, hev, s0, b0.mono (by omega), b1.mono (by omega), b2.mono (by omega), b3.mono (by omega), hll, kk⟩
theorem okValueAt (T : Txt K mg fa fd) : FnOk P w K mg base CX0 1 (fa 3) (fd 3) ["row", "n"] (spValueAt K) := by
  refine T.F_value_at.ok scValueAt (fun vs H Q E h => ?_) (fun cdv A outer s H vs Q E hr h => ?_)
  · obtain ⟨arow, r, s, t, n, N, rfl, h_arow, b_r, b_s, b_t, b_n, hN, kk⟩ := h
    rfl
  · obtain ⟨arow, r, s, t, n, N, rfl, h_arow, b_r, b_s, b_t, b_n, hN, kk⟩ := h
    refine ⟨_, (pss_cons (ps_asg (pv 0) (pgT K 3 (by rfl) (pgs_cons (pg_name (i := 2) scValueAt.nd rfl (Or.inl rfl)) (pgs_cons (pg_name (i := 3) scValueAt.nd rfl (Or.inl rfl)) (pgs_cons (pg_name (i := 4) scValueAt.nd rfl (Or.inl rfl)) pgs_nil)))))
      (pss_one (ps_ret (pe_op op_add (pe_op op_add (pe_op op_mulW (pe_op op_mulW (pv 2) (pv 1)) (pv 1)) (pe_op op_mulW (pv 3) (pv 1))) (pv 4))))), ?_⟩
    repeat' (first
      | with_reducible apply R.var
      | with_reducible apply R.gsE
      | ((with_reducible apply R.gsN); (focus exact rfl))
      | with_reducible apply R.lenS
      | ((with_reducible apply R.lenB); exact rfl)
      | ((with_reducible apply R.isEq); exact rfl)
      | with_reducible apply R.op
      | with_reducible apply R.i2
      | with_reducible apply R.i0
      | with_reducible apply R.con
      | with_reducible apply R.cons
      | with_reducible apply R.nil
      | with_reducible apply R.gcons
      | with_reducible apply R.gname
      | ((with_reducible apply R.ixT); (focus ((repeat' (first | with_reducible assumption | with_reducible apply hU | ((with_reducible apply SqT.of); with_reducible assumption) | ((with_reducible apply same_seqT); with_reducible assumption) | ((with_reducible apply kp_seqT); with_reducible assumption) | ((with_reducible apply Dw.same); with_reducible assumption))); done)); exact rfl)
      | ((with_reducible apply R.ixL); (focus ((repeat' (first | with_reducible assumption | ((with_reducible apply SqL.of); with_reducible assumption) | ((with_reducible apply Same.seq); with_reducible assumption) | ((with_reducible apply Kp.seqL); with_reducible assumption) | ((with_reducible apply fresh_ne); with_reducible assumption) | ((with_reducible apply Dw.same); with_reducible assumption))); done)); exact rfl)
      | with_reducible assumption
      | with_reducible apply Bd.mulW
      | with_reducible apply Bd.mul
      | with_reducible apply Bd.add
      | with_reducible apply Bd.sub
      | ((with_reducible apply Bd.l8); exact eq_true (by decide))
      | ((with_reducible apply Bd.lit); exact eq_true (by decide))
      | with_reducible apply Bd.neg
      | with_reducible apply Bd.div
      | with_reducible apply Bd.abs
      | with_reducible apply Bd.mod
      | with_reducible apply Bd.fdiv
      | ((with_reducible apply Bd.om); omega)
      | ((with_reducible apply R.isLe); first | decide | omega)
      | with_reducible apply R.un
      | with_reducible apply R.u1
      | with_reducible apply R.tup
      | with_reducible apply R.lst
      | with_reducible apply R.call
      | with_reducible apply R.callB
      | with_reducible apply R.gtup
      | with_reducible apply R.gnil
      | with_reducible apply R.seq
      | with_reducible apply R.asg
      | with_reducible apply R.ret
      | with_reducible apply R.brk
      | with_reducible apply R.cont
      | with_reducible apply R.next
      | with_reducible apply R.drop
      | with_reducible apply R.par
      | with_reducible apply R.par2
      | with_reducible apply R.ifs
      | with_reducible apply R.tif
      | with_reducible apply R.test
      | with_reducible apply R.tb'
      | with_reducible apply R.isbl
      | with_reducible apply R.cmp
      | with_reducible apply R.t2i
      | with_reducible apply R.intp
      | with_reducible apply R.and
      | with_reducible apply R.or
      | with_reducible apply R.not
      | with_reducible apply R.andV
      | with_reducible apply R.orV
      | with_reducible apply R.notV
      | with_reducible apply R.chain
      | with_reducible apply R.tupL
      | with_reducible apply R.lstL
      | with_reducible apply R.cat
      | with_reducible apply R.absI
      | with_reducible apply R.intI
      | with_reducible apply R.intB
      | with_reducible apply R.eqS
      | with_reducible apply R.eqBl
      | with_reducible apply R.neBl
      | with_reducible apply R.sl
      | with_reducible apply R.noPart
      | with_reducible apply R.part
      | with_reducible apply R.isInt
      | with_reducible apply R.slL
      | with_reducible apply R.isiT
      | with_reducible apply R.isiLst
      | with_reducible apply R.nwT
      | with_reducible apply R.nwL
      | ((with_reducible apply R.mt); intro HN tn sn nn ht)
      | ((with_reducible apply R.ml); intro HN tn sn nn ht)
      | ((with_reducible apply R.isiTupS); focus ((repeat' (first | with_reducible assumption | with_reducible apply hU | ((with_reducible apply SqT.of); with_reducible assumption) | ((with_reducible apply same_seqT); with_reducible assumption) | ((with_reducible apply kp_seqT); with_reducible assumption) | ((with_reducible apply Dw.same); with_reducible assumption))); done))
      | ((with_reducible apply R.ne4); focus ((repeat' (first | with_reducible assumption | with_reducible apply hU | ((with_reducible apply SqT.of); with_reducible assumption) | ((with_reducible apply same_seqT); with_reducible assumption) | ((with_reducible apply kp_seqT); with_reducible assumption) | ((with_reducible apply Dw.same); with_reducible assumption))); done))
      | ((with_reducible apply R.ne3); focus ((repeat' (first | with_reducible assumption | with_reducible apply hU | ((with_reducible apply SqT.of); with_reducible assumption) | ((with_reducible apply same_seqT); with_reducible assumption) | ((with_reducible apply kp_seqT); with_reducible assumption) | ((with_reducible apply Dw.same); with_reducible assumption))); done))
      | ((with_reducible apply R.ne2); focus ((repeat' (first | with_reducible assumption | with_reducible apply hU | ((with_reducible apply SqT.of); with_reducible assumption) | ((with_reducible apply same_seqT); with_reducible assumption) | ((with_reducible apply kp_seqT); with_reducible assumption) | ((with_reducible apply Dw.same); with_reducible assumption))); done))
      | ((with_reducible apply R.eq4); focus ((repeat' (first | with_reducible assumption | with_reducible apply hU | ((with_reducible apply SqT.of); with_reducible assumption) | ((with_reducible apply same_seqT); with_reducible assumption) | ((with_reducible apply kp_seqT); with_reducible assumption) | ((with_reducible apply Dw.same); with_reducible assumption))); done))
      | ((with_reducible apply R.eq3); focus ((repeat' (first | with_reducible assumption | with_reducible apply hU | ((with_reducible apply SqT.of); with_reducible assumption) | ((with_reducible apply same_seqT); with_reducible assumption) | ((with_reducible apply kp_seqT); with_reducible assumption) | ((with_reducible apply Dw.same); with_reducible assumption))); done))
      | ((with_reducible apply R.eq2); focus ((repeat' (first | with_reducible assumption | with_reducible apply hU | ((with_reducible apply SqT.of); with_reducible assumption) | ((with_reducible apply same_seqT); with_reducible assumption) | ((with_reducible apply kp_seqT); with_reducible assumption) | ((with_reducible apply Dw.same); with_reducible assumption))); done))
      | with_reducible apply uLawNext
      | with_reducible apply uLawWide
      | with_reducible apply uIsSquare
      | ((with_reducible apply R.nw); intro HN tn sn ht)
      | with_reducible apply iteT
      | with_reducible apply iteF
      | with_reducible apply R.notT
      | with_reducible apply R.notF
      | ((with_reducible apply SqT.of); with_reducible assumption)
      | ((with_reducible apply SqL.of); with_reducible assumption)
      | ((with_reducible apply same_seqT); with_reducible assumption)
      | ((with_reducible apply sameB); with_reducible assumption)
      | ((with_reducible apply same_at); with_reducible assumption)
      | ((with_reducible apply kp_seqT); with_reducible assumption)
      | ((with_reducible apply Same.seq); with_reducible assumption)
      | ((with_reducible apply Kp.seqL); with_reducible assumption)
      | ((with_reducible apply fresh_ne); with_reducible assumption)
      | ((with_reducible apply Dw.same); with_reducible assumption)
      | ((with_reducible apply R.isEq); exact eq_true (by first | decide | omega))
      | ((with_reducible apply R.isLt); first | decide | omega)
      | ((with_reducible apply R.isLtI); first | decide | omega)
      | ((with_reducible apply R.isLeI); first | decide | omega)
      | ((with_reducible apply R.cdiv); exact rfl)
      | ((with_reducible apply R.cpow); exact rfl)
      | with_reducible apply R.cdivX
      | ((with_reducible apply R.isNe); omega)
      | with_reducible apply hU
      | ((with_reducible apply wayNF); first | exact rfl | exact ⟨rfl, rfl⟩ | exact ⟨rfl, rfl, rfl⟩ | exact ⟨rfl, rfl, rfl, rfl⟩)
      | with_reducible apply R.bm
      | ((with_reducible apply R.bmT); (focus ((first | with_reducible assumption | ((with_reducible apply same_at); with_reducible assumption) | ((with_reducible apply kp_at); with_reducible assumption)); done)))
      | with_reducible apply R.dput
      | with_reducible apply R.dget
      | with_reducible apply R.din
      | with_reducible apply R.dget2
      | with_reducible apply R.forE
      | with_reducible apply R.rng1
      | with_reducible apply R.rng2
      | with_reducible apply R.rg1
      | with_reducible apply R.rg2
      | with_reducible apply R.lcE
      | with_reducible apply R.itup
      | with_reducible apply R.ilst
      )
    all_goals first | omega | exact kk | (refine kk _ _ ?_ (by assumption); (repeat' (first | with_reducible exact Same.refl _ | with_reducible assumption | ((with_reducible apply sameB); with_reducible assumption))))
def spLawCell (K : PySem.W.Frag) : Sp := fun vs H Q _ => ∃ (l : Addr) (ns : List Int) (j : Nat), vs = [.ref l, .int (j : Int)] ∧ SqL K H l (ns.map V.int) ∧ ∀ v : Int, Q (.int v) H
theorem okLawCell (T : Txt K mg fa fd) : FnOk P w K mg base CX0 1 (fa 4) (fd 4) ["script", "k"] (spLawCell K) := by
  refine T.F__law_cell.ok scLawCell (fun vs H Q E h => ?_) (fun cdv A outer s H vs Q E hr h => ?_)
  · obtain ⟨l, ns, j, rfl, hS, q⟩ := h
    rfl
  · obtain ⟨l, ns, j, rfl, hS, q⟩ := h
    refine ⟨_, (pss_cons (ps_if (pt_cmp (pc_lt (pv 1) (pe_callB (lenQ K) (by rfl) T.m_len (by decide +kernel) (pa_cons (pv 0) pa_nil))))
      (pss_one (ps_ret (pe_ix (ixL K) (pv 0) (pv 1) (fun _ _ => rfl))))
      pss_nil)
      (pss_one (ps_ret pe_int))), ?_⟩
    refine ⟨_, rfl, _, rfl, _, _, rfl, .inl hS, _, _, rfl, rfl, _, rfl, ite2 (fun e => ?_) (fun e => ?_)⟩
    · have e1 : (j : Int) < ((ns.map V.int).length : Int) := of_decide_eq_true e
      have hj : j < ns.length := by
        rw [List.length_map] at e1
        omega
      exact ⟨_, rfl, _, rfl, _, _, _, _, rfl, rfl, hS, atI_nat (by rw [List.getElem?_map, List.getElem?_eq_getElem hj]; rfl), q _⟩
    · exact q 0
def spLawNumbers (K : PySem.W.Frag) : Sp := fun vs H Q _ => ∃ (c : Int) (m : Nat), vs = [.int c, .int (m : Int)] ∧ m ≤ 100 ∧
  ∀ H' p (ns : List Int), Same H H' → H p = none → H' p = some (.lst (ns.map V.int)) → ns.length = m → (∀ n ∈ ns, 0 ≤ n ∧ n < 1000) → Q (.ref p) H'
theorem okLawNumbers (T : Txt K mg fa fd) : FnOk P w K mg base CX0 1 (fa 5) (fd 5) ["cell", "many"] (spLawNumbers K) := by
  refine T.F__law_numbers.ok scLawNumbers (fun vs H Q E h => ?_) (fun cdv A outer s H vs Q E hr h => ?_)
  · obtain ⟨c, m, rfl, hm, q⟩ := h
    rfl
  · obtain ⟨c, m, rfl, hm, q⟩ := h
    refine ⟨_, (pss_cons (ps_set (i := 2) scLawNumbers.nd rfl (Or.inl rfl) (pe_callB (absQ K) (by rfl) T.m_abs (by decide +kernel) (pa_cons (pv 0) pa_nil)))
      (pss_cons (ps_set (i := 3) scLawNumbers.nd rfl (Or.inl rfl) (pv 2))
      (pss_cons (ps_set (i := 4) scLawNumbers.nd rfl (Or.inl rfl) (pe_lst pa_nil))
      (pss_cons (ps_for PassesOwn.never rfl (pi_range1 (by rfl) T.m_range (pa_cons (pv 1) pa_nil)) (pg_name (i := 5) scLawNumbers.nd rfl (Or.inl rfl))
      (pss_one (ps_if (PW.pt (pw_and (pt_cmp (pc_ge (pv 3) (pe_op op_pow pe_int pe_int))) (pw_and1 (pt_cmp (pc_gt (pv 2) pe_int)))))
        (pss_cons (ps_expr (pe_bm PySem.F.plainAttrs_list PySem.F.slot_list_append PySem.F.type_list_append mt_append (pv 4) (pa_cons (pe_op op_mod (pe_callTy (intQ K) (by rfl) T.m_int (by decide +kernel) (pa_cons (pv 2) pa_nil)) pe_int) pa_nil)))
          (pss_one (ps_set (i := 2) scLawNumbers.nd rfl (Or.inl rfl) (pe_op op_fdiv (pv 2) pe_int))))
        (pss_cons (ps_set (i := 6) scLawNumbers.nd rfl (Or.inl rfl) (pe_op op_mod (pe_callTy (intQ K) (by rfl) T.m_int (by decide +kernel) (pa_cons (pe_op op_add (pe_op op_add (pe_op op_mul (pv 3) pe_int) (pe_op op_mul (pv 5) pe_int)) pe_int) pa_nil)) pe_int))
          (pss_cons (ps_set (i := 6) scLawNumbers.nd rfl (Or.inl rfl) (pe_op op_mod (pe_callTy (intQ K) (by rfl) T.m_int (by decide +kernel) (pa_cons (pe_op op_add (pe_op op_add (pe_op op_mul (pv 6) (pv 6)) (pe_op op_mul pe_int (pv 5))) pe_int) pa_nil)) pe_int))
          (pss_one (ps_expr (pe_bm PySem.F.plainAttrs_list PySem.F.slot_list_append PySem.F.type_list_append mt_append (pv 4) (pa_cons (pe_op op_mod (pe_callTy (intQ K) (by rfl) T.m_int (by decide +kernel) (pa_cons (pe_op op_fdiv (pv 6) pe_int) pa_nil)) pe_int) pa_nil)))))))))
      (pss_one (ps_ret (pv 4))))))), ?_⟩
    refine ⟨_, rfl, _, rfl, _, rfl, Nat.zero_le _, fun o no => ?_⟩
    refine ⟨_, rfl, _, rfl, by omega, by omega, for_range (lo := 0) (n := m) (fun i σ H' => ∃ (rest span : Int) (x5 x6 : Option V) (ns : List Int), σ = [some (.int c), some (.int (m : Int)), some (.int rest), some (.int span), some (.ref o), x5, x6] ∧ Same H H' ∧ H' o = some (.lst (ns.map V.int)) ∧ ns.length = i ∧ ∀ n ∈ ns, 0 ≤ n ∧ n < 1000)
      ⟨_, _, _, _, [], rfl, same_upd no, upd_same, rfl, fun n h => nomatch h⟩ (fun i σ H' hi ⟨rest, span, x5, x6, ns, hσ, hs, ho, hl, hb⟩ => ?_) (fun σ H' ⟨rest, span, x5, x6, ns, hσ, hs, ho, hl, hb⟩ => ?_)⟩
    · subst hσ
      have sz : (ns.map V.int).length < sizeLine := by
        rw [List.length_map]
        exact small1000 (by omega)
      have app : ∀ r : Int, 0 ≤ r → r < 1000 → (upd H' o (.lst (ns.map V.int ++ [V.int r]))) o = some (.lst ((ns ++ [r]).map V.int)) ∧ (ns ++ [r]).length = i + 1 ∧ ∀ n ∈ ns ++ [r], 0 ≤ n ∧ n < 1000 := fun r h0 h1 => by
        refine ⟨by rw [upd_same, List.map_append]; rfl, by rw [List.length_append, hl]; rfl, fun n hn => ?_⟩
        rcases List.mem_append.mp hn with hn | hn
        · exact hb n hn
        · rw [List.mem_singleton.mp hn]
          exact ⟨h0, h1⟩
      refine ⟨_, rfl, _, _, rfl, rfl, ⟨by decide, by decide, by decide⟩, _, _, rfl, rfl, _, rfl, ?_⟩
      have tl : ∀ (D : Ends) (rest' : Int) (x5' x6' : Option V) (r : Int), 0 ≤ r → r < 1000 → (∀ σ' H2, (∃ (rest span : Int) (x5 x6 : Option V) (ns : List Int), σ' = [some (.int c), some (.int (m : Int)), some (.int rest), some (.int span), some (.ref o), x5, x6] ∧ Same H H2 ∧ H2 o = some (.lst (ns.map V.int)) ∧ ns.length = i + 1 ∧ ∀ n ∈ ns, 0 ≤ n ∧ n < 1000) → D.nx σ' H2) → D.nx [some (.int c), some (.int (m : Int)), some (.int rest'), some (.int span), some (.ref o), x5', x6'] (upd H' o (.lst (ns.map V.int ++ [V.int r]))) := fun D rest' x5' x6' r h0 h1 k => by
        obtain ⟨a1, a2, a3⟩ := app r h0 h1
        exact k _ _ ⟨rest', span, x5', x6', _, rfl, same_mut hs no, a1, a2, a3⟩
      have m1 : ∀ z : Int, 0 ≤ z % 1000 ∧ z % 1000 < 1000 := fun z => by omega
      have m2 : ∀ z : Int, 0 ≤ z % 2147483647 ∧ z % 2147483647 < 2147483647 := fun z => by omega
      refine ite2 (fun e => ?_) (fun e => ?_)
      · refine ⟨_, rfl, _, _, rfl, rfl, _, rfl, ite2 (fun e => ?_) (fun e => ?_)⟩
        · refine ⟨_, rfl, .inl ⟨rfl, _, SqL.of ho⟩, _, rfl, .inl ⟨_, rfl, _, _, rfl, rfl, by show (0 : Int) < 1000; decide, _, _, _, rfl, rfl, ho, sz, ?_⟩⟩
          refine ⟨_, rfl, _, _, rfl, rfl, ⟨by decide, by decide⟩, ?_⟩
          obtain ⟨a1, a2, a3⟩ := app (rest % 1000) (m1 _).1 (m1 _).2
          exact ⟨_, _, _, _, _, rfl, same_mut hs no, a1, a2, a3⟩
        · refine ⟨_, rfl, _, _, rfl, rfl, .inr ⟨by decide, by decide⟩, _, rfl, _, _, rfl, rfl, .inr ⟨by decide, by decide⟩, _, _, rfl, rfl, _, _, rfl, rfl, .inl ⟨_, rfl, _, _, rfl, rfl, by show (0 : Int) < 2147483647; decide, ?_⟩⟩
          refine ⟨_, rfl, _, rfl, _, _, rfl, rfl, .inl ?_, _, rfl, _, _, rfl, rfl, .inl ⟨by decide, by decide⟩, _, _, rfl, rfl, _, _, rfl, rfl, .inl ⟨_, rfl, _, _, rfl, rfl, by show (0 : Int) < 2147483629; decide, ?_⟩⟩
          · have h := m2 (span * 48271 + (0 + (i : Int)) * 69621 + 11)
            omega
          refine ⟨_, rfl, .inl ⟨rfl, _, SqL.of ho⟩, _, rfl, _, _, rfl, rfl, ⟨by decide, by decide⟩, .inl ⟨_, rfl, _, _, rfl, rfl, by show (0 : Int) < 1000; decide, _, _, _, rfl, rfl, ho, sz, ?_⟩⟩
          obtain ⟨a1, a2, a3⟩ := app _ (m1 _).1 (m1 _).2
          exact ⟨_, _, _, _, _, rfl, same_mut hs no, a1, a2, a3⟩
      · refine iteF ?_
        refine ⟨_, rfl, _, _, rfl, rfl, .inr ⟨by decide, by decide⟩, _, rfl, _, _, rfl, rfl, .inr ⟨by decide, by decide⟩, _, _, rfl, rfl, _, _, rfl, rfl, .inl ⟨_, rfl, _, _, rfl, rfl, by show (0 : Int) < 2147483647; decide, ?_⟩⟩
        refine ⟨_, rfl, _, rfl, _, _, rfl, rfl, .inl ?_, _, rfl, _, _, rfl, rfl, .inl ⟨by decide, by decide⟩, _, _, rfl, rfl, _, _, rfl, rfl, .inl ⟨_, rfl, _, _, rfl, rfl, by show (0 : Int) < 2147483629; decide, ?_⟩⟩
        · have h := m2 (span * 48271 + (0 + (i : Int)) * 69621 + 11)
          omega
        refine ⟨_, rfl, .inl ⟨rfl, _, SqL.of ho⟩, _, rfl, _, _, rfl, rfl, ⟨by decide, by decide⟩, .inl ⟨_, rfl, _, _, rfl, rfl, by show (0 : Int) < 1000; decide, _, _, _, rfl, rfl, ho, sz, ?_⟩⟩
        obtain ⟨a1, a2, a3⟩ := app _ (m1 _).1 (m1 _).2
        exact ⟨_, _, _, _, _, rfl, same_mut hs no, a1, a2, a3⟩
    · subst hσ
      exact ⟨_, rfl, q _ _ ns hs no ho hl hb⟩
def spLawState (K : PySem.W.Frag) : Sp := fun vs H Q _ => ∃ (l : Addr) (ns : List Int), vs = [.ref l] ∧ SqL K H l (ns.map V.int) ∧ ∀ H' p a, Same H H' → Dw H' p a 0 → Q (.ref p) H'
theorem okLawState (T : Txt K mg fa fd) : FnOk P w K mg base CX0 2 (fa 6) (fd 6) ["script"] (spLawState K) := by
  refine T.F__law_state.ok scLawState (fun vs H Q E h => ?_) (fun cdv A outer s H vs Q E hr h => ?_)
  · obtain ⟨l, ns, rfl, hS, q⟩ := h
    rfl
  · obtain ⟨l, ns, rfl, hS, q⟩ := h
    refine ⟨_, (pss_cons (ps_set (i := 1) scLawState.nd rfl (Or.inl rfl) (pe_lst pa_nil))
      (pss_cons (ps_for PassesOwn.never rfl (pi_range1 (by rfl) T.m_range (pa_cons pe_int pa_nil)) (pg_name (i := 2) scLawState.nd rfl (Or.inl rfl))
      (pss_one (ps_set (i := 1) scLawState.nd rfl (Or.inl rfl) (pe_op op_cat (pv 1) (pe_call (sp := spLawNumbers K) (okLawNumbers T) hr (by rfl) T.G__law_numbers T.F__law_numbers.kp T.B__law_numbers .nil pass0 (pa_cons (pe_op op_add (pe_callB (absQ K) (by rfl) T.m_abs (by decide +kernel) (pa_cons (pe_call (sp := spLawCell K) (okLawCell T) hr (by rfl) T.G__law_cell T.F__law_cell.kp T.B__law_cell .nil pass0 (pa_cons (pv 0) (pa_cons (pv 2) pa_nil))) pa_nil)) (pe_op op_mul pe_int (pv 2))) (pa_cons pe_int pa_nil)))))))
      (pss_one (ps_ret (pe_lst (pa_cons (pv 1) (pa_cons pe_int pa_nil))))))), ?_⟩
    refine ⟨Nat.zero_le _, fun o no => ?_⟩
    refine ⟨3, rfl, by decide, by decide, for_range (lo := 0) (n := 3) (fun i σ H' => ∃ (o : Addr) (x2 : Option V) (ms : List Int), σ = [some (.ref l), some (.ref o), x2] ∧ Same H H' ∧ H' o = some (.lst (ms.map V.int)) ∧ ms.length = 40 * i ∧ ∀ n ∈ ms, 0 ≤ n ∧ n < 1000)
      ⟨o, none, [], rfl, same_upd no, upd_same, rfl, fun n h => nomatch h⟩ (fun i σ H' hi ⟨o, x2, ms, hσ, hs, ho, hl, hb⟩ => ?_) (fun σ H' ⟨o, x2, ms, hσ, hs, ho, hl, hb⟩ => ?_)⟩
    · subst hσ
      refine ⟨_, rfl, _, rfl, _, rfl, l, ns, i, ?_, hs.seq hS, fun v => ⟨_, rfl, _, rfl, _, _, rfl, rfl, .inl ⟨by decide, by decide⟩, _, _, rfl, rfl, _, 40, rfl, by decide, fun H2 u ks s2 nu hu kl kb => ?_⟩⟩
      · exact congrArg (fun t : Int => [V.ref l, V.int t]) (Int.zero_add _)
      refine ⟨_, _, _, _, rfl, rfl, s2 _ _ ho, hu, ?_, fun w nw => ?_⟩
      · rw [List.length_map, List.length_map]
        exact small200 (by omega)
      refine ⟨w, _, ms ++ ks, rfl, (hs.trans s2).trans (same_upd nw), ?_, ?_, fun n hn => ?_⟩
      · rw [upd_same, List.map_append]
      · rw [List.length_append]
        omega
      · rcases List.mem_append.mp hn with hn | hn
        · exact hb n hn
        · exact kb n hn
    · subst hσ
      refine ⟨_, rfl, by show 2 ≤ sizeLine; decide, fun p np => ?_⟩
      refine q _ p o (hs.trans (same_upd np)) ⟨0, ms, Nat.le_refl 0, ne_of_none ho np, upd_same, ?_, hl, hb⟩
      rw [upd_ne (ne_of_none ho np)]
      exact ho
def spLawNext (_ : PySem.W.Frag) : Sp := fun vs H Q _ => ∃ (p a : Addr) (many : Int) (N : Nat), vs = [.ref p, .int many] ∧ Dw H p a N ∧ N < 1000000000 ∧ 0 < many ∧
  ∀ r H', 0 ≤ r → r < many → Dw H' p a (N + 1) → (∀ b, b ≠ p → H' b = H b) → Q (.int r) H'
theorem uLawNext {K : PySem.W.Frag} {H : Hp} {Q : VK} {E : XK} {vs : List V} {p a : Addr} {N : Nat} {many : Int} (e : vs = [.ref p, .int many]) (d : Dw H p a N) (hN : N < 1000000000) (hm : 0 < many) (q : ∀ r H', 0 ≤ r → r < many → Dw H' p a (N + 1) → Kp p H H' → Q (.int r) H') : spLawNext K vs H Q E :=
  ⟨p, a, many, N, e, d, hN, hm, fun r H' h0 h1 d' f => q r H' h0 h1 d' (frm_kp f)⟩
theorem okLawNext (T : Txt K mg fa fd) : FnOk P w K mg base CX0 1 (fa 7) (fd 7) ["state", "many"] (spLawNext K) := by
  refine T.F__law_next.ok scLawNext (fun vs H Q E h => ?_) (fun cdv A outer s H vs Q E hr h => ?_)
  · obtain ⟨p, a, many, N, rfl, ⟨m, ns, hm, hap, hp, ha, hl, hb⟩, hN, hmany, q⟩ := h
    rfl
  · obtain ⟨p, a, many, N, rfl, ⟨m, ns, hm, hap, hp, ha, hl, hb⟩, hN, hmany, q⟩ := h
    refine ⟨_, (pss_cons (ps_asg (pe_op op_add (pe_ix (ixL K) (pv 0) pe_int (fun _ _ => rfl)) pe_int) (pg_sub (pv 0) pe_int set_list))
      (pss_cons (ps_set (i := 2) scLawNext.nd rfl (Or.inl rfl) (pe_op op_add (pe_ix (ixL K) (pe_ix (ixL K) (pv 0) pe_int (fun _ _ => rfl)) (pe_op op_mod (pe_callTy (intQ K) (by rfl) T.m_int (by decide +kernel) (pa_cons (pe_op op_mul (pe_ix (ixL K) (pv 0) pe_int (fun _ _ => rfl)) pe_int) pa_nil)) (pe_callB (lenQ K) (by rfl) T.m_len (by decide +kernel) (pa_cons (pe_ix (ixL K) (pv 0) pe_int (fun _ _ => rfl)) pa_nil))) (fun _ _ => rfl)) (pe_op op_mul (pe_op op_mul pe_int (pe_ix (ixL K) (pv 0) pe_int (fun _ _ => rfl))) (pe_op op_add pe_int (pe_op op_fdiv (pe_ix (ixL K) (pv 0) pe_int (fun _ _ => rfl)) (pe_callB (lenQ K) (by rfl) T.m_len (by decide +kernel) (pa_cons (pe_ix (ixL K) (pv 0) pe_int (fun _ _ => rfl)) pa_nil)))))))
      (pss_one (ps_ret (pe_op op_mod (pe_callTy (intQ K) (by rfl) T.m_int (by decide +kernel) (pa_cons (pv 2) pa_nil)) (pv 1)))))), ?_⟩
    have eS : SqL K H p [.ref a, .int (m : Int)] := SqL.of hp
    refine ⟨_, rfl, _, _, _, _, rfl, rfl, eS, atI_nat (j := 1) rfl, _, _, rfl, rfl, _, rfl, _, _, _, 1, rfl, rfl, hp, rfl, ?_⟩
    have h1p : (upd H p (.lst [.ref a, .int ((m : Int) + 1)])) p = some (.lst [.ref a, .int ((m : Int) + 1)]) := upd_same
    have h1a : (upd H p (.lst [.ref a, .int ((m : Int) + 1)])) a = some (.lst (ns.map V.int)) := by
      rw [upd_ne hap]
      exact ha
    have fr : ∀ b, b ≠ p → (upd H p (.lst [.ref a, .int ((m : Int) + 1)])) b = H b := fun b hb => upd_ne hb
    show tSeq _ _ _ _ (upd H p (.lst [.ref a, .int ((m : Int) + 1)]))
    generalize upd H p (.lst [.ref a, .int ((m : Int) + 1)]) = H1 at h1p h1a fr
    have S1 : SqL K H1 p [.ref a, .int ((m : Int) + 1)] := SqL.of h1p
    have A1 : SqL K H1 a (ns.map V.int) := SqL.of h1a
    have hl2 : ((ns.map V.int).length : Int) = 120 := by
      rw [List.length_map, hl]
      rfl
    obtain ⟨x, hx, ex⟩ := at_int (ns := ns) (r := ((m : Int) + 1) * 7 % 120) (by omega) (by omega)
    refine ⟨_, rfl, _, _, _, _, rfl, rfl, S1, atI_nat (j := 0) rfl, _, rfl, _, _, _, _, rfl, rfl, S1, atI_nat (j := 1) rfl, _, _, rfl, rfl, .inr ⟨by decide, by decide⟩, .inl ⟨_, rfl, _, rfl, _, _, _, _, rfl, rfl, S1, atI_nat (j := 0) rfl, _, _, rfl, .inl A1, ?_⟩⟩
    rw [hl2]
    refine ⟨_, _, rfl, rfl, by show (0 : Int) < 120; decide, _, _, _, _, rfl, rfl, A1, ex, ?_⟩
    refine ⟨_, rfl, _, _, _, _, rfl, rfl, S1, atI_nat (j := 1) rfl, _, _, rfl, rfl, .inl ⟨by decide, by decide⟩, _, rfl, _, _, _, _, rfl, rfl, S1, atI_nat (j := 1) rfl, _, rfl, _, _, _, _, rfl, rfl, S1, atI_nat (j := 0) rfl, _, _, rfl, .inl A1, ?_⟩
    rw [hl2]
    refine ⟨_, _, rfl, rfl, ⟨by decide, by decide⟩, _, _, rfl, rfl, _, _, rfl, rfl, .inl ⟨by omega, by omega⟩, _, _, rfl, rfl, ?_⟩
    refine ⟨_, rfl, .inl ⟨_, rfl, _, rfl, _, _, rfl, rfl, hmany, ?_⟩⟩
    exact q _ _ (Int.emod_nonneg _ (by omega)) (Int.emod_lt_of_pos _ hmany) ⟨m + 1, ns, by omega, hap, h1p, h1a, hl, hb⟩ fr
def spLawWide (_ : PySem.W.Frag) : Sp := fun vs H Q _ => ∃ (p a : Addr) (many : Int) (N : Nat), vs = [.ref p, .int many] ∧ Dw H p a N ∧ N < 900000000 ∧ 0 < many ∧
  ∀ r H', 0 ≤ r → r < many → Dw H' p a (N + 6) → (∀ b, b ≠ p → H' b = H b) → Q (.int r) H'
theorem uLawWide {K : PySem.W.Frag} {H : Hp} {Q : VK} {E : XK} {vs : List V} {p a : Addr} {N : Nat} {many : Int} (e : vs = [.ref p, .int many]) (d : Dw H p a N) (hN : N < 900000000) (hm : 0 < many) (q : ∀ r H', 0 ≤ r → r < many → Dw H' p a (N + 6) → Kp p H H' → Q (.int r) H') : spLawWide K vs H Q E :=
  ⟨p, a, many, N, e, d, hN, hm, fun r H' h0 h1 d' f => q r H' h0 h1 d' (frm_kp f)⟩
theorem okLawWide (T : Txt K mg fa fd) : FnOk P w K mg base CX0 2 (fa 8) (fd 8) ["state", "many"] (spLawWide K) := by
  refine T.F__law_wide.ok scLawWide (fun vs H Q E h => ?_) (fun cdv A outer s H vs Q E hr h => ?_)
  · obtain ⟨p, a, many, N, rfl, hD, hN, hmany, q⟩ := h
    rfl
  · obtain ⟨p, a, many, N, rfl, hD, hN, hmany, q⟩ := h
    refine ⟨_, (pss_cons (ps_set (i := 2) scLawWide.nd rfl (Or.inl rfl) pe_int)
      (pss_cons (ps_for PassesOwn.never rfl (pi_range1 (by rfl) T.m_range (pa_cons pe_int pa_nil)) (pg_name (i := 3) scLawWide.nd rfl (Or.inl rfl))
      (pss_one (ps_set (i := 2) scLawWide.nd rfl (Or.inl rfl) (pe_op op_add (pe_op op_mul (pv 2) pe_int) (pe_call (sp := spLawNext K) (okLawNext T) hr (by rfl) T.G__law_next T.F__law_next.kp T.B__law_next .nil pass0 (pa_cons (pv 0) (pa_cons pe_int pa_nil)))))))
      (pss_one (ps_ret (pe_op op_mod (pv 2) (pv 1)))))), ?_⟩
    refine ⟨6, rfl, by decide, by decide, for_range (lo := 0) (n := 6) (fun i σ H' => ∃ (t : Int) (x3 : Option V), σ = [some (.ref p), some (.int many), some (.int t), x3] ∧ Dw H' p a (N + i) ∧ ∀ b, b ≠ p → H' b = H b)
      ⟨0, none, rfl, hD, fun _ _ => rfl⟩ (fun i σ H' hi ⟨t, x3, hσ, hd, fr⟩ => ?_) (fun σ H' ⟨t, x3, hσ, hd, fr⟩ => ?_)⟩
    · subst hσ
      refine ⟨_, rfl, _, _, rfl, rfl, .inr ⟨by decide, by decide⟩, _, rfl, p, a, 1000, N + i, rfl, hd, by omega, by decide, fun r H2 h0 h1 hd2 fr2 => ?_⟩
      refine ⟨_, _, rfl, rfl, _, _, rfl, ?_, fun b hb => (fr2 b hb).trans (fr b hb)⟩
      exact hd2
    · subst hσ
      refine ⟨_, rfl, _, rfl, _, _, rfl, rfl, hmany, ?_⟩
      exact q _ _ (Int.emod_nonneg _ (by omega)) (Int.emod_lt_of_pos _ hmany) hd fr
theorem sgnAt {r : Int} (h0 : 0 ≤ r) (h1 : r < 2) : ∃ v : Int, (v = 1 ∨ v = -1) ∧ atI [V.int 1, V.int (-1)] r = some (.int v) := by
  obtain rfl | rfl : r = 0 ∨ r = 1 := by omega
  · exact ⟨1, .inl rfl, rfl⟩
  · exact ⟨-1, .inr rfl, rfl⟩
theorem quad_two {g f o x : Int} (g0 : g ≠ 0) : g * x * x + -g * (f + o) * x + g * f * o = 0 ↔ x = f ∨ x = o := by
  have e : g * x * x + -g * (f + o) * x + g * f * o = g * ((x - f) * (x - o)) := by grind
  rw [e]
  constructor
  · intro h
    rcases Int.mul_eq_zero.mp ((Int.mul_eq_zero.mp h).resolve_left g0) with k | k
    · exact .inl (by omega)
    · exact .inr (by omega)
  · rintro (rfl | rfl)
    · rw [Int.sub_self, Int.zero_mul, Int.mul_zero]
    · rw [Int.sub_self, Int.mul_zero, Int.mul_zero]
theorem quad_none {g f o x : Int} (g0 : g ≠ 0) (h : (f - o).natAbs ≠ 2) : ¬ (g * x * x + -g * (f + o) * x + (g * f * o + g) = 0) := by
  intro e
  have e2 : g * ((x - f) * (x - o) + 1) = 0 := by
    rw [← e]
    grind
  have e3 := (Int.mul_eq_zero.mp e2).resolve_left g0
  have e4 : (x - f).natAbs * (x - o).natAbs = 1 := by
    rw [← Int.natAbs_mul, show (x - f) * (x - o) = -1 by omega]
    rfl
  have e5 : (x - f).natAbs = 1 := Nat.eq_one_of_mul_eq_one_right e4
  have e6 : (x - o).natAbs = 1 := Nat.eq_one_of_mul_eq_one_left e4
  have c1 : x - f = 1 ∨ x - f = -1 := by omega
  have c2 : x - o = 1 ∨ x - o = -1 := by omega
  rcases c1 with c1 | c1 <;> rcases c2 with c2 | c2 <;> rw [c1, c2] at e3 <;> omega
theorem quad_lin {g f x : Int} (g0 : g ≠ 0) : 0 * x * x + g * x + -g * f = 0 ↔ x = f := by
  have e : 0 * x * x + g * x + -g * f = g * (x - f) := by grind
  rw [e]
  constructor
  · intro h
    have := (Int.mul_eq_zero.mp h).resolve_left g0
    omega
  · rintro rfl
    rw [Int.sub_self, Int.mul_zero]
theorem root_in {a b c t : Int} (h : a ≠ 0 ∨ (b ≠ 0 ∧ c.natAbs ≤ 900)) (hb : b.natAbs ≤ 450) (hc : c.natAbs ≤ 2000) (e : a * t * t + b * t + c = 0) : -900 ≤ t ∧ t < 901 := by
  have key : t.natAbs ≤ 900 := by
    by_cases z : t.natAbs ≤ 900
    · exact z
    · exfalso
      have hbt : (b * t).natAbs ≤ 450 * t.natAbs := by rw [Int.natAbs_mul]; exact Nat.mul_le_mul hb (Nat.le_refl _)
      by_cases a0 : a = 0
      · obtain ⟨h1, h2⟩ := h.resolve_left (fun k => k a0)
        have e2 : b * t = -c := by
          rw [a0] at e
          have : (0 : Int) * t * t = 0 := by grind
          omega
        have : 1 * t.natAbs ≤ (b * t).natAbs := by rw [Int.natAbs_mul]; exact Nat.mul_le_mul (by omega) (Nat.le_refl _)
        omega
      · have e2 : a * t * t = -(b * t + c) := by omega
        have e3 : (a * t * t).natAbs ≤ 450 * t.natAbs + 2000 := by rw [e2]; omega
        have e4 : 901 * t.natAbs ≤ (a * t * t).natAbs := by
          rw [Int.natAbs_mul]
          refine Nat.mul_le_mul ?_ (Nat.le_refl _)
          rw [Int.natAbs_mul]
          have : 1 * 901 ≤ a.natAbs * t.natAbs := Nat.mul_le_mul (by omega) (by omega)
          omega
        omega
  omega
def spLaw (K : PySem.W.Frag) : Sp := fun vs H Q _ => ∃ (a : Addr) (ns : List Int), vs = [.ref a] ∧ SqL K H a (ns.map V.int) ∧ ns.length ≤ 63 ∧ ∀ H', Q (.bl true) H'
theorem okLaw (T : Txt K mg fa fd) : FnOk P w K mg base CX0 4 (fa 9) (fd 9) ["script"] (spLaw K) := by
  refine T.F_law.ok scLaw (fun vs H Q E h => ?_) (fun cdv A outer s H vs Q E hr h => ?_)
  · obtain ⟨l, ns, rfl, hS, hlen, qq⟩ := h
    rfl
  · obtain ⟨l, ns, rfl, hS, hlen, qq⟩ := h
    refine ⟨_, (pss_cons (ps_set (i := 1) scLaw.nd rfl (Or.inl rfl) (pe_call (sp := spLawState K) (okLawState T) (hr.mono (by decide)) (by rfl) T.G__law_state T.F__law_state.kp T.B__law_state .nil pass0 (pa_cons (pv 0) pa_nil)))
      (pss_cons (ps_set (i := 2) scLaw.nd rfl (Or.inl rfl) (pe_op op_mulW (pe_op op_add pe_int (pe_call (sp := spLawNext K) (okLawNext T) (hr.mono (by decide)) (by rfl) T.G__law_next T.F__law_next.kp T.B__law_next .nil pass0 (pa_cons (pv 1) (pa_cons pe_int pa_nil)))) (pe_ix (ixL K) (pe_lst (pa_cons pe_int (pa_cons (pe_un un_neg pe_int) pa_nil))) (pe_call (sp := spLawNext K) (okLawNext T) (hr.mono (by decide)) (by rfl) T.G__law_next T.F__law_next.kp T.B__law_next .nil pass0 (pa_cons (pv 1) (pa_cons pe_int pa_nil))) (fun _ _ => rfl))))
      (pss_cons (ps_set (i := 3) scLaw.nd rfl (Or.inl rfl) (pe_op op_sub (pe_call (sp := spLawNext K) (okLawNext T) (hr.mono (by decide)) (by rfl) T.G__law_next T.F__law_next.kp T.B__law_next .nil pass0 (pa_cons (pv 1) (pa_cons pe_int pa_nil))) pe_int))
      (pss_cons (ps_set (i := 4) scLaw.nd rfl (Or.inl rfl) (pe_op op_sub (pe_call (sp := spLawNext K) (okLawNext T) (hr.mono (by decide)) (by rfl) T.G__law_next T.F__law_next.kp T.B__law_next .nil pass0 (pa_cons (pv 1) (pa_cons pe_int pa_nil))) pe_int))
      (pss_cons (ps_set (i := 5) scLaw.nd rfl (Or.inl rfl) (pe_op op_add pe_int (pe_call (sp := spLawNext K) (okLawNext T) (hr.mono (by decide)) (by rfl) T.G__law_next T.F__law_next.kp T.B__law_next .nil pass0 (pa_cons (pv 1) (pa_cons pe_int pa_nil)))))
      (pss_cons (ps_asg (pe_ix (ixL K) (pe_lst (pa_cons (pe_tup (pa_cons (pv 2) (pa_cons (pe_op op_mulW (pe_un un_neg (pv 2)) (pe_op op_add (pv 3) (pv 4))) (pa_cons (pe_op op_mulW (pe_op op_mulW (pv 2) (pv 3)) (pv 4)) pa_nil)))) (pa_cons (pe_tup (pa_cons pe_int (pa_cons (pv 2) (pa_cons (pe_op op_add (pe_op op_mulW (pe_un un_neg (pv 2)) (pv 3)) (pe_call (sp := spLawNext K) (okLawNext T) (hr.mono (by decide)) (by rfl) T.G__law_next T.F__law_next.kp T.B__law_next .nil pass0 (pa_cons (pv 1) (pa_cons pe_int pa_nil)))) pa_nil)))) (pa_cons (pe_tup (pa_cons (pe_op op_mulW (pv 2) (pv 5)) (pa_cons (pe_op op_mulW (pe_un un_neg (pv 2)) (pe_op op_add (pv 3) (pe_op op_mulW (pv 5) (pv 4)))) (pa_cons (pe_op op_mulW (pe_op op_mulW (pv 2) (pv 3)) (pv 4)) pa_nil)))) (pa_cons (pe_tup (pa_cons (pv 2) (pa_cons (pe_op op_sub (pe_call (sp := spLawNext K) (okLawNext T) (hr.mono (by decide)) (by rfl) T.G__law_next T.F__law_next.kp T.B__law_next .nil pass0 (pa_cons (pv 1) (pa_cons pe_int pa_nil))) pe_int) (pa_cons (pe_op op_sub (pe_call (sp := spLawNext K) (okLawNext T) (hr.mono (by decide)) (by rfl) T.G__law_next T.F__law_next.kp T.B__law_next .nil pass0 (pa_cons (pv 1) (pa_cons pe_int pa_nil))) pe_int) pa_nil)))) pa_nil))))) (pe_call (sp := spLawNext K) (okLawNext T) (hr.mono (by decide)) (by rfl) T.G__law_next T.F__law_next.kp T.B__law_next .nil pass0 (pa_cons (pv 1) (pa_cons pe_int pa_nil))) (fun _ _ => rfl)) (pgT K 3 (by rfl) (pgs_cons (pg_name (i := 6) scLaw.nd rfl (Or.inr rfl)) (pgs_cons (pg_name (i := 7) scLaw.nd rfl (Or.inr rfl)) (pgs_cons (pg_name (i := 8) scLaw.nd rfl (Or.inr rfl)) pgs_nil)))))
      (pss_cons (ps_setLc (i := 9) (own := [("t", 13)]) (g := gName 13)  rfl scLaw.nd rfl rfl (sw_true rfl rfl rfl (by decide +kernel)) (pi_range2 (by rfl) T.m_range (pa_cons (pe_un un_neg pe_int) (pa_cons pe_int pa_nil))) (blkOk_by (own := [("t", 13)]) (N := ["script", "state", "g", "r", "s", "h", "a", "b", "c", "due", "n", "far", "other", "t"]) (sc := defScope sLaw) (by decide +kernel)) (fun _ _ _ _ _ => (pg_name (i := 13) scLaw.nd rfl (Or.inl rfl))) (fun _ _ _ _ _ => (pts_one (pt_cmp (pc_eqI (pe_op op_add (pe_op op_add (pe_op op_mulW (pe_op op_mulW (pv 6) (pv 13)) (pv 13)) (pe_op op_mulW (pv 7) (pv 13))) (pv 8)) pe_int)))) (fun _ _ _ _ _ => (pv 13)))
      (pss_cons (ps_set (i := 10) scLaw.nd rfl (Or.inl rfl) (pe_op op_sub (pe_call (sp := spLawNext K) (okLawNext T) (hr.mono (by decide)) (by rfl) T.G__law_next T.F__law_next.kp T.B__law_next .nil pass0 (pa_cons (pv 1) (pa_cons pe_int pa_nil))) pe_int))
      (pss_cons (ps_expr (pe_bm PySem.F.plainAttrs_list PySem.F.slot_list_append PySem.F.type_list_append mt_append (pe_call (sp := spQuadraticRoots K) (okQuadraticRoots T) hr (by rfl) T.G_quadratic_roots T.F_quadratic_roots.kp T.B_quadratic_roots .nil pass0 (pa_cons (pv 6) (pa_cons (pv 7) (pa_cons (pv 8) pa_nil)))) (pa_cons pe_int pa_nil)))
      (pss_cons (ps_set (i := 11) scLaw.nd rfl (Or.inl rfl) (pe_op op_sub (pe_call (sp := spLawWide K) (okLawWide T) (hr.mono (by decide)) (by rfl) T.G__law_wide T.F__law_wide.kp T.B__law_wide .nil pass0 (pa_cons (pv 1) (pa_cons (pe_op op_pow pe_int pe_int) pa_nil))) (pe_op op_mulW pe_int (pe_op op_pow pe_int pe_int))))
      (pss_cons (ps_set (i := 12) scLaw.nd rfl (Or.inl rfl) (pe_ix (ixL K) (pe_lst (pa_cons (pv 11) (pa_cons (pe_op op_add (pe_op op_add (pv 11) pe_int) (pe_op op_mulW pe_int (pe_call (sp := spLawNext K) (okLawNext T) (hr.mono (by decide)) (by rfl) T.G__law_next T.F__law_next.kp T.B__law_next .nil pass0 (pa_cons (pv 1) (pa_cons pe_int pa_nil))))) (pa_cons (pe_call (sp := spLawWide K) (okLawWide T) (hr.mono (by decide)) (by rfl) T.G__law_wide T.F__law_wide.kp T.B__law_wide .nil pass0 (pa_cons (pv 1) (pa_cons (pe_op op_pow pe_int pe_int) pa_nil))) pa_nil)))) (pe_call (sp := spLawNext K) (okLawNext T) (hr.mono (by decide)) (by rfl) T.G__law_next T.F__law_next.kp T.B__law_next .nil pass0 (pa_cons (pv 1) (pa_cons pe_int pa_nil))) (fun _ _ => rfl)))
      (pss_cons (ps_if (pt_cmpR (neDQ K hr.units) (pe_call (sp := spQuadraticRoots K) (okQuadraticRoots T) hr (by rfl) T.G_quadratic_roots T.F_quadratic_roots.kp T.B_quadratic_roots .nil pass0 (pa_cons (pv 2) (pa_cons (pe_op op_mulW (pe_un un_neg (pv 2)) (pe_op op_add (pv 11) (pv 12))) (pa_cons (pe_op op_mulW (pe_op op_mulW (pv 2) (pv 11)) (pv 12)) pa_nil)))) (pe_callB (sortedSetQ w) (by rfl) T.m_sorted (by decide +kernel) (pa_cons (pe_callTy (setLQ K w) (by rfl) T.m_set (by decide +kernel) (pa_cons (pe_lst (pa_cons (pv 11) (pa_cons (pv 12) pa_nil))) pa_nil)) pa_nil)) (nomark _))
      (pss_one (ps_ret pe_bl))
      pss_nil)
      (C8.pss_cut (ps_if (PW.pt (pw_and (pt_cmp (pc_neI (pe_callB (absQ K) (by rfl) T.m_abs (by decide +kernel) (pa_cons (pe_op op_sub (pv 11) (pv 12)) pa_nil)) pe_int)) (pw_and1 (pt_cmpR (neDQ K hr.units) (pe_call (sp := spQuadraticRoots K) (okQuadraticRoots T) hr (by rfl) T.G_quadratic_roots T.F_quadratic_roots.kp T.B_quadratic_roots .nil pass0 (pa_cons (pv 2) (pa_cons (pe_op op_mulW (pe_un un_neg (pv 2)) (pe_op op_add (pv 11) (pv 12))) (pa_cons (pe_op op_add (pe_op op_mulW (pe_op op_mulW (pv 2) (pv 11)) (pv 12)) (pv 2)) pa_nil)))) (pe_lst pa_nil) (nomark _)))))
      (pss_one (ps_ret pe_bl))
      pss_nil)
      (pss_cons (ps_if (pt_cmpR (neDQ K hr.units) (pe_call (sp := spQuadraticRoots K) (okQuadraticRoots T) hr (by rfl) T.G_quadratic_roots T.F_quadratic_roots.kp T.B_quadratic_roots .nil pass0 (pa_cons pe_int (pa_cons (pv 2) (pa_cons (pe_op op_mulW (pe_un un_neg (pv 2)) (pv 11)) pa_nil)))) (pe_lst (pa_cons (pv 11) pa_nil)) (nomark _))
      (pss_one (ps_ret pe_bl))
      pss_nil)
      (pss_one (ps_ret (pe_and (pe_cmpR (eqDQ K hr.units) (pe_call (sp := spQuadraticRoots K) (okQuadraticRoots T) hr (by rfl) T.G_quadratic_roots T.F_quadratic_roots.kp T.B_quadratic_roots .nil pass0 (pa_cons (pv 6) (pa_cons (pv 7) (pa_cons (pv 8) pa_nil)))) (pv 9) (nomark _)) (pe_one (pe_cmp (pc_eqI (pe_call (sp := spValueAt K) (okValueAt T) (hr.mono (by decide)) (by rfl) T.G_value_at T.F_value_at.kp T.B_value_at .nil pass0 (pa_cons (pe_tup (pa_cons (pv 6) (pa_cons (pv 7) (pa_cons (pv 8) pa_nil)))) (pa_cons (pv 10) pa_nil))) (pe_op op_add (pe_op op_add (pe_op op_mulW (pe_op op_mulW (pv 6) (pv 10)) (pv 10)) (pe_op op_mulW (pv 7) (pv 10))) (pv 8)))))))))))))))))))))), ?_⟩
    repeat' (first
      | with_reducible apply R.var
      | with_reducible apply R.gsE
      | ((with_reducible apply R.gsN); (focus exact rfl))
      | with_reducible apply R.lenS
      | ((with_reducible apply R.lenB); exact rfl)
      | ((with_reducible apply R.isEq); exact rfl)
      | with_reducible apply R.op
      | with_reducible apply R.i2
      | with_reducible apply R.i0
      | with_reducible apply R.con
      | with_reducible apply R.cons
      | with_reducible apply R.nil
      | with_reducible apply R.gcons
      | with_reducible apply R.gname
      | ((with_reducible apply R.ixT); (focus ((repeat' (first | with_reducible assumption | with_reducible apply hU | ((with_reducible apply SqT.of); with_reducible assumption) | ((with_reducible apply same_seqT); with_reducible assumption) | ((with_reducible apply kp_seqT); with_reducible assumption) | ((with_reducible apply Dw.same); with_reducible assumption))); done)); exact rfl)
      | ((with_reducible apply R.ixL); (focus ((repeat' (first | with_reducible assumption | ((with_reducible apply SqL.of); with_reducible assumption) | ((with_reducible apply Same.seq); with_reducible assumption) | ((with_reducible apply Kp.seqL); with_reducible assumption) | ((with_reducible apply fresh_ne); with_reducible assumption) | ((with_reducible apply Dw.same); with_reducible assumption))); done)); exact rfl)
      | with_reducible assumption
      | with_reducible apply Bd.mulW
      | with_reducible apply Bd.mul
      | with_reducible apply Bd.add
      | with_reducible apply Bd.sub
      | ((with_reducible apply Bd.l8); exact eq_true (by decide))
      | ((with_reducible apply Bd.lit); exact eq_true (by decide))
      | with_reducible apply Bd.neg
      | with_reducible apply Bd.div
      | with_reducible apply Bd.abs
      | with_reducible apply Bd.mod
      | with_reducible apply Bd.fdiv
      | ((with_reducible apply Bd.om); omega)
      | ((with_reducible apply R.isLe); first | decide | omega)
      | with_reducible apply R.un
      | with_reducible apply R.u1
      | with_reducible apply R.tup
      | with_reducible apply R.lst
      | with_reducible apply R.call
      | with_reducible apply R.callB
      | with_reducible apply R.gtup
      | with_reducible apply R.gnil
      | with_reducible apply R.seq
      | with_reducible apply R.asg
      | with_reducible apply R.ret
      | with_reducible apply R.brk
      | with_reducible apply R.cont
      | with_reducible apply R.next
      | with_reducible apply R.drop
      | with_reducible apply R.par
      | with_reducible apply R.par2
      | with_reducible apply R.ifs
      | with_reducible apply R.tif
      | with_reducible apply R.test
      | with_reducible apply R.tb'
      | with_reducible apply R.isbl
      | with_reducible apply R.cmp
      | with_reducible apply R.t2i
      | with_reducible apply R.intp
      | with_reducible apply R.and
      | with_reducible apply R.or
      | with_reducible apply R.not
      | with_reducible apply R.andV
      | with_reducible apply R.orV
      | with_reducible apply R.notV
      | with_reducible apply R.chain
      | with_reducible apply R.tupL
      | with_reducible apply R.lstL
      | with_reducible apply R.cat
      | with_reducible apply R.absI
      | with_reducible apply R.intI
      | with_reducible apply R.intB
      | with_reducible apply R.eqS
      | with_reducible apply R.eqBl
      | with_reducible apply R.neBl
      | with_reducible apply R.sl
      | with_reducible apply R.noPart
      | with_reducible apply R.part
      | with_reducible apply R.isInt
      | with_reducible apply R.slL
      | with_reducible apply R.isiT
      | with_reducible apply R.isiLst
      | with_reducible apply R.nwT
      | with_reducible apply R.nwL
      | ((with_reducible apply R.mt); intro HN tn sn nn ht)
      | ((with_reducible apply R.ml); intro HN tn sn nn ht)
      | ((with_reducible apply R.isiTupS); focus ((repeat' (first | with_reducible assumption | with_reducible apply hU | ((with_reducible apply SqT.of); with_reducible assumption) | ((with_reducible apply same_seqT); with_reducible assumption) | ((with_reducible apply kp_seqT); with_reducible assumption) | ((with_reducible apply Dw.same); with_reducible assumption))); done))
      | ((with_reducible apply R.ne4); focus ((repeat' (first | with_reducible assumption | with_reducible apply hU | ((with_reducible apply SqT.of); with_reducible assumption) | ((with_reducible apply same_seqT); with_reducible assumption) | ((with_reducible apply kp_seqT); with_reducible assumption) | ((with_reducible apply Dw.same); with_reducible assumption))); done))
      | ((with_reducible apply R.ne3); focus ((repeat' (first | with_reducible assumption | with_reducible apply hU | ((with_reducible apply SqT.of); with_reducible assumption) | ((with_reducible apply same_seqT); with_reducible assumption) | ((with_reducible apply kp_seqT); with_reducible assumption) | ((with_reducible apply Dw.same); with_reducible assumption))); done))
      | ((with_reducible apply R.ne2); focus ((repeat' (first | with_reducible assumption | with_reducible apply hU | ((with_reducible apply SqT.of); with_reducible assumption) | ((with_reducible apply same_seqT); with_reducible assumption) | ((with_reducible apply kp_seqT); with_reducible assumption) | ((with_reducible apply Dw.same); with_reducible assumption))); done))
      | ((with_reducible apply R.eq4); focus ((repeat' (first | with_reducible assumption | with_reducible apply hU | ((with_reducible apply SqT.of); with_reducible assumption) | ((with_reducible apply same_seqT); with_reducible assumption) | ((with_reducible apply kp_seqT); with_reducible assumption) | ((with_reducible apply Dw.same); with_reducible assumption))); done))
      | ((with_reducible apply R.eq3); focus ((repeat' (first | with_reducible assumption | with_reducible apply hU | ((with_reducible apply SqT.of); with_reducible assumption) | ((with_reducible apply same_seqT); with_reducible assumption) | ((with_reducible apply kp_seqT); with_reducible assumption) | ((with_reducible apply Dw.same); with_reducible assumption))); done))
      | ((with_reducible apply R.eq2); focus ((repeat' (first | with_reducible assumption | with_reducible apply hU | ((with_reducible apply SqT.of); with_reducible assumption) | ((with_reducible apply same_seqT); with_reducible assumption) | ((with_reducible apply kp_seqT); with_reducible assumption) | ((with_reducible apply Dw.same); with_reducible assumption))); done))
      | with_reducible apply uLawNext
      | with_reducible apply uLawWide
      | with_reducible apply uValueAt
      | with_reducible apply uIsSquare
      | ((with_reducible apply R.nw); intro HN tn sn ht)
      | with_reducible apply iteT
      | with_reducible apply iteF
      | with_reducible apply R.notT
      | with_reducible apply R.notF
      | ((with_reducible apply SqT.of); with_reducible assumption)
      | ((with_reducible apply SqL.of); with_reducible assumption)
      | ((with_reducible apply same_seqT); with_reducible assumption)
      | ((with_reducible apply sameB); with_reducible assumption)
      | ((with_reducible apply same_at); with_reducible assumption)
      | ((with_reducible apply kp_seqT); with_reducible assumption)
      | ((with_reducible apply Same.seq); with_reducible assumption)
      | ((with_reducible apply Kp.seqL); with_reducible assumption)
      | ((with_reducible apply fresh_ne); with_reducible assumption)
      | ((with_reducible apply Dw.same); with_reducible assumption)
      | ((with_reducible apply R.isEq); exact eq_true (by first | decide | omega))
      | ((with_reducible apply R.isLt); first | decide | omega)
      | ((with_reducible apply R.isLtI); first | decide | omega)
      | ((with_reducible apply R.isLeI); first | decide | omega)
      | ((with_reducible apply R.cdiv); exact rfl)
      | ((with_reducible apply R.cpow); exact rfl)
      | with_reducible apply R.cdivX
      | ((with_reducible apply R.isNe); omega)
      | with_reducible apply hU
      | ((with_reducible apply wayNF); first | exact rfl | exact ⟨rfl, rfl⟩ | exact ⟨rfl, rfl, rfl⟩ | exact ⟨rfl, rfl, rfl, rfl⟩)
      | with_reducible apply R.bm
      | ((with_reducible apply R.bmT); (focus ((first | with_reducible assumption | ((with_reducible apply same_at); with_reducible assumption) | ((with_reducible apply kp_at); with_reducible assumption)); done)))
      | with_reducible apply R.dput
      | with_reducible apply R.dget
      | with_reducible apply R.din
      | with_reducible apply R.dget2
      | with_reducible apply R.forE
      | with_reducible apply R.rng1
      | with_reducible apply R.rng2
      | with_reducible apply R.rg1
      | with_reducible apply R.rg2
      | with_reducible apply R.lcE
      | with_reducible apply R.itup
      | with_reducible apply R.ilst
      )
    refine ⟨l, ns, rfl, hS, fun H1 p0 q0 s1 d1 => ?_⟩
    repeat' (first
      | with_reducible apply R.var
      | with_reducible apply R.gsE
      | ((with_reducible apply R.gsN); (focus exact rfl))
      | with_reducible apply R.lenS
      | ((with_reducible apply R.lenB); exact rfl)
      | ((with_reducible apply R.isEq); exact rfl)
      | with_reducible apply R.op
      | with_reducible apply R.i2
      | with_reducible apply R.i0
      | with_reducible apply R.con
      | with_reducible apply R.cons
      | with_reducible apply R.nil
      | with_reducible apply R.gcons
      | with_reducible apply R.gname
      | ((with_reducible apply R.ixT); (focus ((repeat' (first | with_reducible assumption | with_reducible apply hU | ((with_reducible apply SqT.of); with_reducible assumption) | ((with_reducible apply same_seqT); with_reducible assumption) | ((with_reducible apply kp_seqT); with_reducible assumption) | ((with_reducible apply Dw.same); with_reducible assumption))); done)); exact rfl)
      | ((with_reducible apply R.ixL); (focus ((repeat' (first | with_reducible assumption | ((with_reducible apply SqL.of); with_reducible assumption) | ((with_reducible apply Same.seq); with_reducible assumption) | ((with_reducible apply Kp.seqL); with_reducible assumption) | ((with_reducible apply fresh_ne); with_reducible assumption) | ((with_reducible apply Dw.same); with_reducible assumption))); done)); exact rfl)
      | with_reducible assumption
      | with_reducible apply Bd.mulW
      | with_reducible apply Bd.mul
      | with_reducible apply Bd.add
      | with_reducible apply Bd.sub
      | ((with_reducible apply Bd.l8); exact eq_true (by decide))
      | ((with_reducible apply Bd.lit); exact eq_true (by decide))
      | with_reducible apply Bd.neg
      | with_reducible apply Bd.div
      | with_reducible apply Bd.abs
      | with_reducible apply Bd.mod
      | with_reducible apply Bd.fdiv
      | ((with_reducible apply Bd.om); omega)
      | ((with_reducible apply R.isLe); first | decide | omega)
      | with_reducible apply R.un
      | with_reducible apply R.u1
      | with_reducible apply R.tup
      | with_reducible apply R.lst
      | with_reducible apply R.call
      | with_reducible apply R.callB
      | with_reducible apply R.gtup
      | with_reducible apply R.gnil
      | with_reducible apply R.seq
      | with_reducible apply R.asg
      | with_reducible apply R.ret
      | with_reducible apply R.brk
      | with_reducible apply R.cont
      | with_reducible apply R.next
      | with_reducible apply R.drop
      | with_reducible apply R.par
      | with_reducible apply R.par2
      | with_reducible apply R.ifs
      | with_reducible apply R.tif
      | with_reducible apply R.test
      | with_reducible apply R.tb'
      | with_reducible apply R.isbl
      | with_reducible apply R.cmp
      | with_reducible apply R.t2i
      | with_reducible apply R.intp
      | with_reducible apply R.and
      | with_reducible apply R.or
      | with_reducible apply R.not
      | with_reducible apply R.andV
      | with_reducible apply R.orV
      | with_reducible apply R.notV
      | with_reducible apply R.chain
      | with_reducible apply R.tupL
      | with_reducible apply R.lstL
      | with_reducible apply R.cat
      | with_reducible apply R.absI
      | with_reducible apply R.intI
      | with_reducible apply R.intB
      | with_reducible apply R.eqS
      | with_reducible apply R.eqBl
      | with_reducible apply R.neBl
      | with_reducible apply R.sl
      | with_reducible apply R.noPart
      | with_reducible apply R.part
      | with_reducible apply R.isInt
      | with_reducible apply R.slL
      | with_reducible apply R.isiT
      | with_reducible apply R.isiLst
      | with_reducible apply R.nwT
      | with_reducible apply R.nwL
      | ((with_reducible apply R.mt); intro HN tn sn nn ht)
      | ((with_reducible apply R.ml); intro HN tn sn nn ht)
      | ((with_reducible apply R.isiTupS); focus ((repeat' (first | with_reducible assumption | with_reducible apply hU | ((with_reducible apply SqT.of); with_reducible assumption) | ((with_reducible apply same_seqT); with_reducible assumption) | ((with_reducible apply kp_seqT); with_reducible assumption) | ((with_reducible apply Dw.same); with_reducible assumption))); done))
      | ((with_reducible apply R.ne4); focus ((repeat' (first | with_reducible assumption | with_reducible apply hU | ((with_reducible apply SqT.of); with_reducible assumption) | ((with_reducible apply same_seqT); with_reducible assumption) | ((with_reducible apply kp_seqT); with_reducible assumption) | ((with_reducible apply Dw.same); with_reducible assumption))); done))
      | ((with_reducible apply R.ne3); focus ((repeat' (first | with_reducible assumption | with_reducible apply hU | ((with_reducible apply SqT.of); with_reducible assumption) | ((with_reducible apply same_seqT); with_reducible assumption) | ((with_reducible apply kp_seqT); with_reducible assumption) | ((with_reducible apply Dw.same); with_reducible assumption))); done))
      | ((with_reducible apply R.ne2); focus ((repeat' (first | with_reducible assumption | with_reducible apply hU | ((with_reducible apply SqT.of); with_reducible assumption) | ((with_reducible apply same_seqT); with_reducible assumption) | ((with_reducible apply kp_seqT); with_reducible assumption) | ((with_reducible apply Dw.same); with_reducible assumption))); done))
      | ((with_reducible apply R.eq4); focus ((repeat' (first | with_reducible assumption | with_reducible apply hU | ((with_reducible apply SqT.of); with_reducible assumption) | ((with_reducible apply same_seqT); with_reducible assumption) | ((with_reducible apply kp_seqT); with_reducible assumption) | ((with_reducible apply Dw.same); with_reducible assumption))); done))
      | ((with_reducible apply R.eq3); focus ((repeat' (first | with_reducible assumption | with_reducible apply hU | ((with_reducible apply SqT.of); with_reducible assumption) | ((with_reducible apply same_seqT); with_reducible assumption) | ((with_reducible apply kp_seqT); with_reducible assumption) | ((with_reducible apply Dw.same); with_reducible assumption))); done))
      | ((with_reducible apply R.eq2); focus ((repeat' (first | with_reducible assumption | with_reducible apply hU | ((with_reducible apply SqT.of); with_reducible assumption) | ((with_reducible apply same_seqT); with_reducible assumption) | ((with_reducible apply kp_seqT); with_reducible assumption) | ((with_reducible apply Dw.same); with_reducible assumption))); done))
      | with_reducible apply uLawNext
      | with_reducible apply uLawWide
      | with_reducible apply uValueAt
      | with_reducible apply uIsSquare
      | ((with_reducible apply R.nw); intro HN tn sn ht)
      | with_reducible apply iteT
      | with_reducible apply iteF
      | with_reducible apply R.notT
      | with_reducible apply R.notF
      | ((with_reducible apply SqT.of); with_reducible assumption)
      | ((with_reducible apply SqL.of); with_reducible assumption)
      | ((with_reducible apply same_seqT); with_reducible assumption)
      | ((with_reducible apply sameB); with_reducible assumption)
      | ((with_reducible apply same_at); with_reducible assumption)
      | ((with_reducible apply kp_seqT); with_reducible assumption)
      | ((with_reducible apply Same.seq); with_reducible assumption)
      | ((with_reducible apply Kp.seqL); with_reducible assumption)
      | ((with_reducible apply fresh_ne); with_reducible assumption)
      | ((with_reducible apply Dw.same); with_reducible assumption)
      | ((with_reducible apply R.isEq); exact eq_true (by first | decide | omega))
      | ((with_reducible apply R.isLt); first | decide | omega)
      | ((with_reducible apply R.isLtI); first | decide | omega)
      | ((with_reducible apply R.isLeI); first | decide | omega)
      | ((with_reducible apply R.cdiv); exact rfl)
      | ((with_reducible apply R.cpow); exact rfl)
      | with_reducible apply R.cdivX
      | ((with_reducible apply R.isNe); omega)
      | with_reducible apply hU
      | ((with_reducible apply wayNF); first | exact rfl | exact ⟨rfl, rfl⟩ | exact ⟨rfl, rfl, rfl⟩ | exact ⟨rfl, rfl, rfl, rfl⟩)
      | with_reducible apply R.bm
      | ((with_reducible apply R.bmT); (focus ((first | with_reducible assumption | ((with_reducible apply same_at); with_reducible assumption) | ((with_reducible apply kp_at); with_reducible assumption)); done)))
      | with_reducible apply R.dput
      | with_reducible apply R.dget
      | with_reducible apply R.din
      | with_reducible apply R.dget2
      | with_reducible apply R.forE
      | with_reducible apply R.rng1
      | with_reducible apply R.rng2
      | with_reducible apply R.rg1
      | with_reducible apply R.rg2
      | with_reducible apply R.lcE
      | with_reducible apply R.itup
      | with_reducible apply R.ilst
      )
    intro r1 H2 r1a r1b d2 k2
    repeat' (first
      | with_reducible apply R.var
      | with_reducible apply R.gsE
      | ((with_reducible apply R.gsN); (focus exact rfl))
      | with_reducible apply R.lenS
      | ((with_reducible apply R.lenB); exact rfl)
      | ((with_reducible apply R.isEq); exact rfl)
      | with_reducible apply R.op
      | with_reducible apply R.i2
      | with_reducible apply R.i0
      | with_reducible apply R.con
      | with_reducible apply R.cons
      | with_reducible apply R.nil
      | with_reducible apply R.gcons
      | with_reducible apply R.gname
      | ((with_reducible apply R.ixT); (focus ((repeat' (first | with_reducible assumption | with_reducible apply hU | ((with_reducible apply SqT.of); with_reducible assumption) | ((with_reducible apply same_seqT); with_reducible assumption) | ((with_reducible apply kp_seqT); with_reducible assumption) | ((with_reducible apply Dw.same); with_reducible assumption))); done)); exact rfl)
      | ((with_reducible apply R.ixL); (focus ((repeat' (first | with_reducible assumption | ((with_reducible apply SqL.of); with_reducible assumption) | ((with_reducible apply Same.seq); with_reducible assumption) | ((with_reducible apply Kp.seqL); with_reducible assumption) | ((with_reducible apply fresh_ne); with_reducible assumption) | ((with_reducible apply Dw.same); with_reducible assumption))); done)); exact rfl)
      | with_reducible assumption
      | with_reducible apply Bd.mulW
      | with_reducible apply Bd.mul
      | with_reducible apply Bd.add
      | with_reducible apply Bd.sub
      | ((with_reducible apply Bd.l8); exact eq_true (by decide))
      | ((with_reducible apply Bd.lit); exact eq_true (by decide))
      | with_reducible apply Bd.neg
      | with_reducible apply Bd.div
      | with_reducible apply Bd.abs
      | with_reducible apply Bd.mod
      | with_reducible apply Bd.fdiv
      | ((with_reducible apply Bd.om); omega)
      | ((with_reducible apply R.isLe); first | decide | omega)
      | with_reducible apply R.un
      | with_reducible apply R.u1
      | with_reducible apply R.tup
      | with_reducible apply R.lst
      | with_reducible apply R.call
      | with_reducible apply R.callB
      | with_reducible apply R.gtup
      | with_reducible apply R.gnil
      | with_reducible apply R.seq
      | with_reducible apply R.asg
      | with_reducible apply R.ret
      | with_reducible apply R.brk
      | with_reducible apply R.cont
      | with_reducible apply R.next
      | with_reducible apply R.drop
      | with_reducible apply R.par
      | with_reducible apply R.par2
      | with_reducible apply R.ifs
      | with_reducible apply R.tif
      | with_reducible apply R.test
      | with_reducible apply R.tb'
      | with_reducible apply R.isbl
      | with_reducible apply R.cmp
      | with_reducible apply R.t2i
      | with_reducible apply R.intp
      | with_reducible apply R.and
      | with_reducible apply R.or
      | with_reducible apply R.not
      | with_reducible apply R.andV
      | with_reducible apply R.orV
      | with_reducible apply R.notV
      | with_reducible apply R.chain
      | with_reducible apply R.tupL
      | with_reducible apply R.lstL
      | with_reducible apply R.cat
      | with_reducible apply R.absI
      | with_reducible apply R.intI
      | with_reducible apply R.intB
      | with_reducible apply R.eqS
      | with_reducible apply R.eqBl
      | with_reducible apply R.neBl
      | with_reducible apply R.sl
      | with_reducible apply R.noPart
      | with_reducible apply R.part
      | with_reducible apply R.isInt
      | with_reducible apply R.slL
      | with_reducible apply R.isiT
      | with_reducible apply R.isiLst
      | with_reducible apply R.nwT
      | with_reducible apply R.nwL
      | ((with_reducible apply R.mt); intro HN tn sn nn ht)
      | ((with_reducible apply R.ml); intro HN tn sn nn ht)
      | ((with_reducible apply R.isiTupS); focus ((repeat' (first | with_reducible assumption | with_reducible apply hU | ((with_reducible apply SqT.of); with_reducible assumption) | ((with_reducible apply same_seqT); with_reducible assumption) | ((with_reducible apply kp_seqT); with_reducible assumption) | ((with_reducible apply Dw.same); with_reducible assumption))); done))
      | ((with_reducible apply R.ne4); focus ((repeat' (first | with_reducible assumption | with_reducible apply hU | ((with_reducible apply SqT.of); with_reducible assumption) | ((with_reducible apply same_seqT); with_reducible assumption) | ((with_reducible apply kp_seqT); with_reducible assumption) | ((with_reducible apply Dw.same); with_reducible assumption))); done))
      | ((with_reducible apply R.ne3); focus ((repeat' (first | with_reducible assumption | with_reducible apply hU | ((with_reducible apply SqT.of); with_reducible assumption) | ((with_reducible apply same_seqT); with_reducible assumption) | ((with_reducible apply kp_seqT); with_reducible assumption) | ((with_reducible apply Dw.same); with_reducible assumption))); done))
      | ((with_reducible apply R.ne2); focus ((repeat' (first | with_reducible assumption | with_reducible apply hU | ((with_reducible apply SqT.of); with_reducible assumption) | ((with_reducible apply same_seqT); with_reducible assumption) | ((with_reducible apply kp_seqT); with_reducible assumption) | ((with_reducible apply Dw.same); with_reducible assumption))); done))
      | ((with_reducible apply R.eq4); focus ((repeat' (first | with_reducible assumption | with_reducible apply hU | ((with_reducible apply SqT.of); with_reducible assumption) | ((with_reducible apply same_seqT); with_reducible assumption) | ((with_reducible apply kp_seqT); with_reducible assumption) | ((with_reducible apply Dw.same); with_reducible assumption))); done))
      | ((with_reducible apply R.eq3); focus ((repeat' (first | with_reducible assumption | with_reducible apply hU | ((with_reducible apply SqT.of); with_reducible assumption) | ((with_reducible apply same_seqT); with_reducible assumption) | ((with_reducible apply kp_seqT); with_reducible assumption) | ((with_reducible apply Dw.same); with_reducible assumption))); done))
      | ((with_reducible apply R.eq2); focus ((repeat' (first | with_reducible assumption | with_reducible apply hU | ((with_reducible apply SqT.of); with_reducible assumption) | ((with_reducible apply same_seqT); with_reducible assumption) | ((with_reducible apply kp_seqT); with_reducible assumption) | ((with_reducible apply Dw.same); with_reducible assumption))); done))
      | with_reducible apply uLawNext
      | with_reducible apply uLawWide
      | with_reducible apply uValueAt
      | with_reducible apply uIsSquare
      | ((with_reducible apply R.nw); intro HN tn sn ht)
      | with_reducible apply iteT
      | with_reducible apply iteF
      | with_reducible apply R.notT
      | with_reducible apply R.notF
      | ((with_reducible apply SqT.of); with_reducible assumption)
      | ((with_reducible apply SqL.of); with_reducible assumption)
      | ((with_reducible apply same_seqT); with_reducible assumption)
      | ((with_reducible apply sameB); with_reducible assumption)
      | ((with_reducible apply same_at); with_reducible assumption)
      | ((with_reducible apply kp_seqT); with_reducible assumption)
      | ((with_reducible apply Same.seq); with_reducible assumption)
      | ((with_reducible apply Kp.seqL); with_reducible assumption)
      | ((with_reducible apply fresh_ne); with_reducible assumption)
      | ((with_reducible apply Dw.same); with_reducible assumption)
      | ((with_reducible apply R.isEq); exact eq_true (by first | decide | omega))
      | ((with_reducible apply R.isLt); first | decide | omega)
      | ((with_reducible apply R.isLtI); first | decide | omega)
      | ((with_reducible apply R.isLeI); first | decide | omega)
      | ((with_reducible apply R.cdiv); exact rfl)
      | ((with_reducible apply R.cpow); exact rfl)
      | with_reducible apply R.cdivX
      | ((with_reducible apply R.isNe); omega)
      | with_reducible apply hU
      | ((with_reducible apply wayNF); first | exact rfl | exact ⟨rfl, rfl⟩ | exact ⟨rfl, rfl, rfl⟩ | exact ⟨rfl, rfl, rfl, rfl⟩)
      | with_reducible apply R.bm
      | ((with_reducible apply R.bmT); (focus ((first | with_reducible assumption | ((with_reducible apply same_at); with_reducible assumption) | ((with_reducible apply kp_at); with_reducible assumption)); done)))
      | with_reducible apply R.dput
      | with_reducible apply R.dget
      | with_reducible apply R.din
      | with_reducible apply R.dget2
      | with_reducible apply R.forE
      | with_reducible apply R.rng1
      | with_reducible apply R.rng2
      | with_reducible apply R.rg1
      | with_reducible apply R.rg2
      | with_reducible apply R.lcE
      | with_reducible apply R.itup
      | with_reducible apply R.ilst
      )
    intro r2 H3 r2a r2b d3 k3
    obtain ⟨v1, hv1, ev1⟩ := sgnAt r2a r2b
    refine R.ixL (xs := [V.int 1, V.int (-1)]) (by (repeat' (first | with_reducible assumption | ((with_reducible apply SqL.of); with_reducible assumption) | ((with_reducible apply Same.seq); with_reducible assumption) | ((with_reducible apply Kp.seqL); with_reducible assumption) | ((with_reducible apply fresh_ne); with_reducible assumption) | ((with_reducible apply Dw.same); with_reducible assumption)))) ev1 ?_
    repeat' (first
      | with_reducible apply R.var
      | with_reducible apply R.gsE
      | ((with_reducible apply R.gsN); (focus exact rfl))
      | with_reducible apply R.lenS
      | ((with_reducible apply R.lenB); exact rfl)
      | ((with_reducible apply R.isEq); exact rfl)
      | with_reducible apply R.op
      | with_reducible apply R.i2
      | with_reducible apply R.i0
      | with_reducible apply R.con
      | with_reducible apply R.cons
      | with_reducible apply R.nil
      | with_reducible apply R.gcons
      | with_reducible apply R.gname
      | ((with_reducible apply R.ixT); (focus ((repeat' (first | with_reducible assumption | with_reducible apply hU | ((with_reducible apply SqT.of); with_reducible assumption) | ((with_reducible apply same_seqT); with_reducible assumption) | ((with_reducible apply kp_seqT); with_reducible assumption) | ((with_reducible apply Dw.same); with_reducible assumption))); done)); exact rfl)
      | ((with_reducible apply R.ixL); (focus ((repeat' (first | with_reducible assumption | ((with_reducible apply SqL.of); with_reducible assumption) | ((with_reducible apply Same.seq); with_reducible assumption) | ((with_reducible apply Kp.seqL); with_reducible assumption) | ((with_reducible apply fresh_ne); with_reducible assumption) | ((with_reducible apply Dw.same); with_reducible assumption))); done)); exact rfl)
      | with_reducible assumption
      | with_reducible apply Bd.mulW
      | with_reducible apply Bd.mul
      | with_reducible apply Bd.add
      | with_reducible apply Bd.sub
      | ((with_reducible apply Bd.l8); exact eq_true (by decide))
      | ((with_reducible apply Bd.lit); exact eq_true (by decide))
      | with_reducible apply Bd.neg
      | with_reducible apply Bd.div
      | with_reducible apply Bd.abs
      | with_reducible apply Bd.mod
      | with_reducible apply Bd.fdiv
      | ((with_reducible apply Bd.om); omega)
      | ((with_reducible apply R.isLe); first | decide | omega)
      | with_reducible apply R.un
      | with_reducible apply R.u1
      | with_reducible apply R.tup
      | with_reducible apply R.lst
      | with_reducible apply R.call
      | with_reducible apply R.callB
      | with_reducible apply R.gtup
      | with_reducible apply R.gnil
      | with_reducible apply R.seq
      | with_reducible apply R.asg
      | with_reducible apply R.ret
      | with_reducible apply R.brk
      | with_reducible apply R.cont
      | with_reducible apply R.next
      | with_reducible apply R.drop
      | with_reducible apply R.par
      | with_reducible apply R.par2
      | with_reducible apply R.ifs
      | with_reducible apply R.tif
      | with_reducible apply R.test
      | with_reducible apply R.tb'
      | with_reducible apply R.isbl
      | with_reducible apply R.cmp
      | with_reducible apply R.t2i
      | with_reducible apply R.intp
      | with_reducible apply R.and
      | with_reducible apply R.or
      | with_reducible apply R.not
      | with_reducible apply R.andV
      | with_reducible apply R.orV
      | with_reducible apply R.notV
      | with_reducible apply R.chain
      | with_reducible apply R.tupL
      | with_reducible apply R.lstL
      | with_reducible apply R.cat
      | with_reducible apply R.absI
      | with_reducible apply R.intI
      | with_reducible apply R.intB
      | with_reducible apply R.eqS
      | with_reducible apply R.eqBl
      | with_reducible apply R.neBl
      | with_reducible apply R.sl
      | with_reducible apply R.noPart
      | with_reducible apply R.part
      | with_reducible apply R.isInt
      | with_reducible apply R.slL
      | with_reducible apply R.isiT
      | with_reducible apply R.isiLst
      | with_reducible apply R.nwT
      | with_reducible apply R.nwL
      | ((with_reducible apply R.mt); intro HN tn sn nn ht)
      | ((with_reducible apply R.ml); intro HN tn sn nn ht)
      | ((with_reducible apply R.isiTupS); focus ((repeat' (first | with_reducible assumption | with_reducible apply hU | ((with_reducible apply SqT.of); with_reducible assumption) | ((with_reducible apply same_seqT); with_reducible assumption) | ((with_reducible apply kp_seqT); with_reducible assumption) | ((with_reducible apply Dw.same); with_reducible assumption))); done))
      | ((with_reducible apply R.ne4); focus ((repeat' (first | with_reducible assumption | with_reducible apply hU | ((with_reducible apply SqT.of); with_reducible assumption) | ((with_reducible apply same_seqT); with_reducible assumption) | ((with_reducible apply kp_seqT); with_reducible assumption) | ((with_reducible apply Dw.same); with_reducible assumption))); done))
      | ((with_reducible apply R.ne3); focus ((repeat' (first | with_reducible assumption | with_reducible apply hU | ((with_reducible apply SqT.of); with_reducible assumption) | ((with_reducible apply same_seqT); with_reducible assumption) | ((with_reducible apply kp_seqT); with_reducible assumption) | ((with_reducible apply Dw.same); with_reducible assumption))); done))
      | ((with_reducible apply R.ne2); focus ((repeat' (first | with_reducible assumption | with_reducible apply hU | ((with_reducible apply SqT.of); with_reducible assumption) | ((with_reducible apply same_seqT); with_reducible assumption) | ((with_reducible apply kp_seqT); with_reducible assumption) | ((with_reducible apply Dw.same); with_reducible assumption))); done))
      | ((with_reducible apply R.eq4); focus ((repeat' (first | with_reducible assumption | with_reducible apply hU | ((with_reducible apply SqT.of); with_reducible assumption) | ((with_reducible apply same_seqT); with_reducible assumption) | ((with_reducible apply kp_seqT); with_reducible assumption) | ((with_reducible apply Dw.same); with_reducible assumption))); done))
      | ((with_reducible apply R.eq3); focus ((repeat' (first | with_reducible assumption | with_reducible apply hU | ((with_reducible apply SqT.of); with_reducible assumption) | ((with_reducible apply same_seqT); with_reducible assumption) | ((with_reducible apply kp_seqT); with_reducible assumption) | ((with_reducible apply Dw.same); with_reducible assumption))); done))
      | ((with_reducible apply R.eq2); focus ((repeat' (first | with_reducible assumption | with_reducible apply hU | ((with_reducible apply SqT.of); with_reducible assumption) | ((with_reducible apply same_seqT); with_reducible assumption) | ((with_reducible apply kp_seqT); with_reducible assumption) | ((with_reducible apply Dw.same); with_reducible assumption))); done))
      | with_reducible apply uLawNext
      | with_reducible apply uLawWide
      | with_reducible apply uValueAt
      | with_reducible apply uIsSquare
      | ((with_reducible apply R.nw); intro HN tn sn ht)
      | with_reducible apply iteT
      | with_reducible apply iteF
      | with_reducible apply R.notT
      | with_reducible apply R.notF
      | ((with_reducible apply SqT.of); with_reducible assumption)
      | ((with_reducible apply SqL.of); with_reducible assumption)
      | ((with_reducible apply same_seqT); with_reducible assumption)
      | ((with_reducible apply sameB); with_reducible assumption)
      | ((with_reducible apply same_at); with_reducible assumption)
      | ((with_reducible apply kp_seqT); with_reducible assumption)
      | ((with_reducible apply Same.seq); with_reducible assumption)
      | ((with_reducible apply Kp.seqL); with_reducible assumption)
      | ((with_reducible apply fresh_ne); with_reducible assumption)
      | ((with_reducible apply Dw.same); with_reducible assumption)
      | ((with_reducible apply R.isEq); exact eq_true (by first | decide | omega))
      | ((with_reducible apply R.isLt); first | decide | omega)
      | ((with_reducible apply R.isLtI); first | decide | omega)
      | ((with_reducible apply R.isLeI); first | decide | omega)
      | ((with_reducible apply R.cdiv); exact rfl)
      | ((with_reducible apply R.cpow); exact rfl)
      | with_reducible apply R.cdivX
      | ((with_reducible apply R.isNe); omega)
      | with_reducible apply hU
      | ((with_reducible apply wayNF); first | exact rfl | exact ⟨rfl, rfl⟩ | exact ⟨rfl, rfl, rfl⟩ | exact ⟨rfl, rfl, rfl, rfl⟩)
      | with_reducible apply R.bm
      | ((with_reducible apply R.bmT); (focus ((first | with_reducible assumption | ((with_reducible apply same_at); with_reducible assumption) | ((with_reducible apply kp_at); with_reducible assumption)); done)))
      | with_reducible apply R.dput
      | with_reducible apply R.dget
      | with_reducible apply R.din
      | with_reducible apply R.dget2
      | with_reducible apply R.forE
      | with_reducible apply R.rng1
      | with_reducible apply R.rng2
      | with_reducible apply R.rg1
      | with_reducible apply R.rg2
      | with_reducible apply R.lcE
      | with_reducible apply R.itup
      | with_reducible apply R.ilst
      )
    have hg : ((1 + r1) * v1).natAbs ≤ 5 ∧ (1 + r1) * v1 ≠ 0 := by
      rcases hv1 with rfl | rfl <;> constructor <;> omega
    generalize (1 + r1) * v1 = g at *
    intro r3 H4 r3a r3b d4 k4
    repeat' (first
      | with_reducible apply R.var
      | with_reducible apply R.gsE
      | ((with_reducible apply R.gsN); (focus exact rfl))
      | with_reducible apply R.lenS
      | ((with_reducible apply R.lenB); exact rfl)
      | ((with_reducible apply R.isEq); exact rfl)
      | with_reducible apply R.op
      | with_reducible apply R.i2
      | with_reducible apply R.i0
      | with_reducible apply R.con
      | with_reducible apply R.cons
      | with_reducible apply R.nil
      | with_reducible apply R.gcons
      | with_reducible apply R.gname
      | ((with_reducible apply R.ixT); (focus ((repeat' (first | with_reducible assumption | with_reducible apply hU | ((with_reducible apply SqT.of); with_reducible assumption) | ((with_reducible apply same_seqT); with_reducible assumption) | ((with_reducible apply kp_seqT); with_reducible assumption) | ((with_reducible apply Dw.same); with_reducible assumption))); done)); exact rfl)
      | ((with_reducible apply R.ixL); (focus ((repeat' (first | with_reducible assumption | ((with_reducible apply SqL.of); with_reducible assumption) | ((with_reducible apply Same.seq); with_reducible assumption) | ((with_reducible apply Kp.seqL); with_reducible assumption) | ((with_reducible apply fresh_ne); with_reducible assumption) | ((with_reducible apply Dw.same); with_reducible assumption))); done)); exact rfl)
      | with_reducible assumption
      | with_reducible apply Bd.mulW
      | with_reducible apply Bd.mul
      | with_reducible apply Bd.add
      | with_reducible apply Bd.sub
      | ((with_reducible apply Bd.l8); exact eq_true (by decide))
      | ((with_reducible apply Bd.lit); exact eq_true (by decide))
      | with_reducible apply Bd.neg
      | with_reducible apply Bd.div
      | with_reducible apply Bd.abs
      | with_reducible apply Bd.mod
      | with_reducible apply Bd.fdiv
      | ((with_reducible apply Bd.om); omega)
      | ((with_reducible apply R.isLe); first | decide | omega)
      | with_reducible apply R.un
      | with_reducible apply R.u1
      | with_reducible apply R.tup
      | with_reducible apply R.lst
      | with_reducible apply R.call
      | with_reducible apply R.callB
      | with_reducible apply R.gtup
      | with_reducible apply R.gnil
      | with_reducible apply R.seq
      | with_reducible apply R.asg
      | with_reducible apply R.ret
      | with_reducible apply R.brk
      | with_reducible apply R.cont
      | with_reducible apply R.next
      | with_reducible apply R.drop
      | with_reducible apply R.par
      | with_reducible apply R.par2
      | with_reducible apply R.ifs
      | with_reducible apply R.tif
      | with_reducible apply R.test
      | with_reducible apply R.tb'
      | with_reducible apply R.isbl
      | with_reducible apply R.cmp
      | with_reducible apply R.t2i
      | with_reducible apply R.intp
      | with_reducible apply R.and
      | with_reducible apply R.or
      | with_reducible apply R.not
      | with_reducible apply R.andV
      | with_reducible apply R.orV
      | with_reducible apply R.notV
      | with_reducible apply R.chain
      | with_reducible apply R.tupL
      | with_reducible apply R.lstL
      | with_reducible apply R.cat
      | with_reducible apply R.absI
      | with_reducible apply R.intI
      | with_reducible apply R.intB
      | with_reducible apply R.eqS
      | with_reducible apply R.eqBl
      | with_reducible apply R.neBl
      | with_reducible apply R.sl
      | with_reducible apply R.noPart
      | with_reducible apply R.part
      | with_reducible apply R.isInt
      | with_reducible apply R.slL
      | with_reducible apply R.isiT
      | with_reducible apply R.isiLst
      | with_reducible apply R.nwT
      | with_reducible apply R.nwL
      | ((with_reducible apply R.mt); intro HN tn sn nn ht)
      | ((with_reducible apply R.ml); intro HN tn sn nn ht)
      | ((with_reducible apply R.isiTupS); focus ((repeat' (first | with_reducible assumption | with_reducible apply hU | ((with_reducible apply SqT.of); with_reducible assumption) | ((with_reducible apply same_seqT); with_reducible assumption) | ((with_reducible apply kp_seqT); with_reducible assumption) | ((with_reducible apply Dw.same); with_reducible assumption))); done))
      | ((with_reducible apply R.ne4); focus ((repeat' (first | with_reducible assumption | with_reducible apply hU | ((with_reducible apply SqT.of); with_reducible assumption) | ((with_reducible apply same_seqT); with_reducible assumption) | ((with_reducible apply kp_seqT); with_reducible assumption) | ((with_reducible apply Dw.same); with_reducible assumption))); done))
      | ((with_reducible apply R.ne3); focus ((repeat' (first | with_reducible assumption | with_reducible apply hU | ((with_reducible apply SqT.of); with_reducible assumption) | ((with_reducible apply same_seqT); with_reducible assumption) | ((with_reducible apply kp_seqT); with_reducible assumption) | ((with_reducible apply Dw.same); with_reducible assumption))); done))
      | ((with_reducible apply R.ne2); focus ((repeat' (first | with_reducible assumption | with_reducible apply hU | ((with_reducible apply SqT.of); with_reducible assumption) | ((with_reducible apply same_seqT); with_reducible assumption) | ((with_reducible apply kp_seqT); with_reducible assumption) | ((with_reducible apply Dw.same); with_reducible assumption))); done))
      | ((with_reducible apply R.eq4); focus ((repeat' (first | with_reducible assumption | with_reducible apply hU | ((with_reducible apply SqT.of); with_reducible assumption) | ((with_reducible apply same_seqT); with_reducible assumption) | ((with_reducible apply kp_seqT); with_reducible assumption) | ((with_reducible apply Dw.same); with_reducible assumption))); done))
      | ((with_reducible apply R.eq3); focus ((repeat' (first | with_reducible assumption | with_reducible apply hU | ((with_reducible apply SqT.of); with_reducible assumption) | ((with_reducible apply same_seqT); with_reducible assumption) | ((with_reducible apply kp_seqT); with_reducible assumption) | ((with_reducible apply Dw.same); with_reducible assumption))); done))
      | ((with_reducible apply R.eq2); focus ((repeat' (first | with_reducible assumption | with_reducible apply hU | ((with_reducible apply SqT.of); with_reducible assumption) | ((with_reducible apply same_seqT); with_reducible assumption) | ((with_reducible apply kp_seqT); with_reducible assumption) | ((with_reducible apply Dw.same); with_reducible assumption))); done))
      | with_reducible apply uLawNext
      | with_reducible apply uLawWide
      | with_reducible apply uValueAt
      | with_reducible apply uIsSquare
      | ((with_reducible apply R.nw); intro HN tn sn ht)
      | with_reducible apply iteT
      | with_reducible apply iteF
      | with_reducible apply R.notT
      | with_reducible apply R.notF
      | ((with_reducible apply SqT.of); with_reducible assumption)
      | ((with_reducible apply SqL.of); with_reducible assumption)
      | ((with_reducible apply same_seqT); with_reducible assumption)
      | ((with_reducible apply sameB); with_reducible assumption)
      | ((with_reducible apply same_at); with_reducible assumption)
      | ((with_reducible apply kp_seqT); with_reducible assumption)
      | ((with_reducible apply Same.seq); with_reducible assumption)
      | ((with_reducible apply Kp.seqL); with_reducible assumption)
      | ((with_reducible apply fresh_ne); with_reducible assumption)
      | ((with_reducible apply Dw.same); with_reducible assumption)
      | ((with_reducible apply R.isEq); exact eq_true (by first | decide | omega))
      | ((with_reducible apply R.isLt); first | decide | omega)
      | ((with_reducible apply R.isLtI); first | decide | omega)
      | ((with_reducible apply R.isLeI); first | decide | omega)
      | ((with_reducible apply R.cdiv); exact rfl)
      | ((with_reducible apply R.cpow); exact rfl)
      | with_reducible apply R.cdivX
      | ((with_reducible apply R.isNe); omega)
      | with_reducible apply hU
      | ((with_reducible apply wayNF); first | exact rfl | exact ⟨rfl, rfl⟩ | exact ⟨rfl, rfl, rfl⟩ | exact ⟨rfl, rfl, rfl, rfl⟩)
      | with_reducible apply R.bm
      | ((with_reducible apply R.bmT); (focus ((first | with_reducible assumption | ((with_reducible apply same_at); with_reducible assumption) | ((with_reducible apply kp_at); with_reducible assumption)); done)))
      | with_reducible apply R.dput
      | with_reducible apply R.dget
      | with_reducible apply R.din
      | with_reducible apply R.dget2
      | with_reducible apply R.forE
      | with_reducible apply R.rng1
      | with_reducible apply R.rng2
      | with_reducible apply R.rg1
      | with_reducible apply R.rg2
      | with_reducible apply R.lcE
      | with_reducible apply R.itup
      | with_reducible apply R.ilst
      )
    intro r4 H5 r4a r4b d5 k5
    repeat' (first
      | with_reducible apply R.var
      | with_reducible apply R.gsE
      | ((with_reducible apply R.gsN); (focus exact rfl))
      | with_reducible apply R.lenS
      | ((with_reducible apply R.lenB); exact rfl)
      | ((with_reducible apply R.isEq); exact rfl)
      | with_reducible apply R.op
      | with_reducible apply R.i2
      | with_reducible apply R.i0
      | with_reducible apply R.con
      | with_reducible apply R.cons
      | with_reducible apply R.nil
      | with_reducible apply R.gcons
      | with_reducible apply R.gname
      | ((with_reducible apply R.ixT); (focus ((repeat' (first | with_reducible assumption | with_reducible apply hU | ((with_reducible apply SqT.of); with_reducible assumption) | ((with_reducible apply same_seqT); with_reducible assumption) | ((with_reducible apply kp_seqT); with_reducible assumption) | ((with_reducible apply Dw.same); with_reducible assumption))); done)); exact rfl)
      | ((with_reducible apply R.ixL); (focus ((repeat' (first | with_reducible assumption | ((with_reducible apply SqL.of); with_reducible assumption) | ((with_reducible apply Same.seq); with_reducible assumption) | ((with_reducible apply Kp.seqL); with_reducible assumption) | ((with_reducible apply fresh_ne); with_reducible assumption) | ((with_reducible apply Dw.same); with_reducible assumption))); done)); exact rfl)
      | with_reducible assumption
      | with_reducible apply Bd.mulW
      | with_reducible apply Bd.mul
      | with_reducible apply Bd.add
      | with_reducible apply Bd.sub
      | ((with_reducible apply Bd.l8); exact eq_true (by decide))
      | ((with_reducible apply Bd.lit); exact eq_true (by decide))
      | with_reducible apply Bd.neg
      | with_reducible apply Bd.div
      | with_reducible apply Bd.abs
      | with_reducible apply Bd.mod
      | with_reducible apply Bd.fdiv
      | ((with_reducible apply Bd.om); omega)
      | ((with_reducible apply R.isLe); first | decide | omega)
      | with_reducible apply R.un
      | with_reducible apply R.u1
      | with_reducible apply R.tup
      | with_reducible apply R.lst
      | with_reducible apply R.call
      | with_reducible apply R.callB
      | with_reducible apply R.gtup
      | with_reducible apply R.gnil
      | with_reducible apply R.seq
      | with_reducible apply R.asg
      | with_reducible apply R.ret
      | with_reducible apply R.brk
      | with_reducible apply R.cont
      | with_reducible apply R.next
      | with_reducible apply R.drop
      | with_reducible apply R.par
      | with_reducible apply R.par2
      | with_reducible apply R.ifs
      | with_reducible apply R.tif
      | with_reducible apply R.test
      | with_reducible apply R.tb'
      | with_reducible apply R.isbl
      | with_reducible apply R.cmp
      | with_reducible apply R.t2i
      | with_reducible apply R.intp
      | with_reducible apply R.and
      | with_reducible apply R.or
      | with_reducible apply R.not
      | with_reducible apply R.andV
      | with_reducible apply R.orV
      | with_reducible apply R.notV
      | with_reducible apply R.chain
      | with_reducible apply R.tupL
      | with_reducible apply R.lstL
      | with_reducible apply R.cat
      | with_reducible apply R.absI
      | with_reducible apply R.intI
      | with_reducible apply R.intB
      | with_reducible apply R.eqS
      | with_reducible apply R.eqBl
      | with_reducible apply R.neBl
      | with_reducible apply R.sl
      | with_reducible apply R.noPart
      | with_reducible apply R.part
      | with_reducible apply R.isInt
      | with_reducible apply R.slL
      | with_reducible apply R.isiT
      | with_reducible apply R.isiLst
      | with_reducible apply R.nwT
      | with_reducible apply R.nwL
      | ((with_reducible apply R.mt); intro HN tn sn nn ht)
      | ((with_reducible apply R.ml); intro HN tn sn nn ht)
      | ((with_reducible apply R.isiTupS); focus ((repeat' (first | with_reducible assumption | with_reducible apply hU | ((with_reducible apply SqT.of); with_reducible assumption) | ((with_reducible apply same_seqT); with_reducible assumption) | ((with_reducible apply kp_seqT); with_reducible assumption) | ((with_reducible apply Dw.same); with_reducible assumption))); done))
      | ((with_reducible apply R.ne4); focus ((repeat' (first | with_reducible assumption | with_reducible apply hU | ((with_reducible apply SqT.of); with_reducible assumption) | ((with_reducible apply same_seqT); with_reducible assumption) | ((with_reducible apply kp_seqT); with_reducible assumption) | ((with_reducible apply Dw.same); with_reducible assumption))); done))
      | ((with_reducible apply R.ne3); focus ((repeat' (first | with_reducible assumption | with_reducible apply hU | ((with_reducible apply SqT.of); with_reducible assumption) | ((with_reducible apply same_seqT); with_reducible assumption) | ((with_reducible apply kp_seqT); with_reducible assumption) | ((with_reducible apply Dw.same); with_reducible assumption))); done))
      | ((with_reducible apply R.ne2); focus ((repeat' (first | with_reducible assumption | with_reducible apply hU | ((with_reducible apply SqT.of); with_reducible assumption) | ((with_reducible apply same_seqT); with_reducible assumption) | ((with_reducible apply kp_seqT); with_reducible assumption) | ((with_reducible apply Dw.same); with_reducible assumption))); done))
      | ((with_reducible apply R.eq4); focus ((repeat' (first | with_reducible assumption | with_reducible apply hU | ((with_reducible apply SqT.of); with_reducible assumption) | ((with_reducible apply same_seqT); with_reducible assumption) | ((with_reducible apply kp_seqT); with_reducible assumption) | ((with_reducible apply Dw.same); with_reducible assumption))); done))
      | ((with_reducible apply R.eq3); focus ((repeat' (first | with_reducible assumption | with_reducible apply hU | ((with_reducible apply SqT.of); with_reducible assumption) | ((with_reducible apply same_seqT); with_reducible assumption) | ((with_reducible apply kp_seqT); with_reducible assumption) | ((with_reducible apply Dw.same); with_reducible assumption))); done))
      | ((with_reducible apply R.eq2); focus ((repeat' (first | with_reducible assumption | with_reducible apply hU | ((with_reducible apply SqT.of); with_reducible assumption) | ((with_reducible apply same_seqT); with_reducible assumption) | ((with_reducible apply kp_seqT); with_reducible assumption) | ((with_reducible apply Dw.same); with_reducible assumption))); done))
      | with_reducible apply uLawNext
      | with_reducible apply uLawWide
      | with_reducible apply uValueAt
      | with_reducible apply uIsSquare
      | ((with_reducible apply R.nw); intro HN tn sn ht)
      | with_reducible apply iteT
      | with_reducible apply iteF
      | with_reducible apply R.notT
      | with_reducible apply R.notF
      | ((with_reducible apply SqT.of); with_reducible assumption)
      | ((with_reducible apply SqL.of); with_reducible assumption)
      | ((with_reducible apply same_seqT); with_reducible assumption)
      | ((with_reducible apply sameB); with_reducible assumption)
      | ((with_reducible apply same_at); with_reducible assumption)
      | ((with_reducible apply kp_seqT); with_reducible assumption)
      | ((with_reducible apply Same.seq); with_reducible assumption)
      | ((with_reducible apply Kp.seqL); with_reducible assumption)
      | ((with_reducible apply fresh_ne); with_reducible assumption)
      | ((with_reducible apply Dw.same); with_reducible assumption)
      | ((with_reducible apply R.isEq); exact eq_true (by first | decide | omega))
      | ((with_reducible apply R.isLt); first | decide | omega)
      | ((with_reducible apply R.isLtI); first | decide | omega)
      | ((with_reducible apply R.isLeI); first | decide | omega)
      | ((with_reducible apply R.cdiv); exact rfl)
      | ((with_reducible apply R.cpow); exact rfl)
      | with_reducible apply R.cdivX
      | ((with_reducible apply R.isNe); omega)
      | with_reducible apply hU
      | ((with_reducible apply wayNF); first | exact rfl | exact ⟨rfl, rfl⟩ | exact ⟨rfl, rfl, rfl⟩ | exact ⟨rfl, rfl, rfl, rfl⟩)
      | with_reducible apply R.bm
      | ((with_reducible apply R.bmT); (focus ((first | with_reducible assumption | ((with_reducible apply same_at); with_reducible assumption) | ((with_reducible apply kp_at); with_reducible assumption)); done)))
      | with_reducible apply R.dput
      | with_reducible apply R.dget
      | with_reducible apply R.din
      | with_reducible apply R.dget2
      | with_reducible apply R.forE
      | with_reducible apply R.rng1
      | with_reducible apply R.rng2
      | with_reducible apply R.rg1
      | with_reducible apply R.rg2
      | with_reducible apply R.lcE
      | with_reducible apply R.itup
      | with_reducible apply R.ilst
      )
    intro r5 H6 r5a r5b d6 k6
    have bg : Bd 3 g := Bd.of hg.1 (by decide)
    have br : Bd 5 (r3 - 20) := Bd.of (m := 20) (by omega) (by decide)
    have bs : Bd 5 (r4 - 20) := Bd.of (m := 20) (by omega) (by decide)
    have bh : Bd 2 (1 + r5) := Bd.of (m := 3) (by omega) (by decide)
    have mgr : (g * (r3 - 20)).natAbs ≤ 5 * 20 := by rw [Int.natAbs_mul]; exact Nat.mul_le_mul hg.1 (by omega)
    have mgs : (g * (r4 - 20)).natAbs ≤ 5 * 20 := by rw [Int.natAbs_mul]; exact Nat.mul_le_mul hg.1 (by omega)
    have mgh : (g * (1 + r5)).natAbs ≤ 5 * 3 := by rw [Int.natAbs_mul]; exact Nat.mul_le_mul hg.1 (by omega)
    have mhs : ((1 + r5) * (r4 - 20)).natAbs ≤ 3 * 20 := by rw [Int.natAbs_mul]; exact Nat.mul_le_mul (by omega) (by omega)
    have mrs : (g * (r3 - 20) * (r4 - 20)).natAbs ≤ 100 * 20 := by rw [Int.natAbs_mul]; exact Nat.mul_le_mul mgr (by omega)
    have m1 : (-g * (r3 - 20 + (r4 - 20))).natAbs ≤ 5 * 40 := by rw [Int.natAbs_mul, Int.natAbs_neg]; exact Nat.mul_le_mul hg.1 (by omega)
    have m2 : (-g * (r3 - 20)).natAbs ≤ 5 * 20 := by rw [Int.natAbs_mul, Int.natAbs_neg]; exact Nat.mul_le_mul hg.1 (by omega)
    have m3 : (-g * (r3 - 20 + (1 + r5) * (r4 - 20))).natAbs ≤ 5 * 80 := by rw [Int.natAbs_mul, Int.natAbs_neg]; exact Nat.mul_le_mul hg.1 (by omega)
    have ngh : g * (1 + r5) ≠ 0 := fun h => by rcases Int.mul_eq_zero.mp h with h | h <;> omega
    repeat' (first
      | with_reducible apply R.var
      | with_reducible apply R.gsE
      | ((with_reducible apply R.gsN); (focus exact rfl))
      | with_reducible apply R.lenS
      | ((with_reducible apply R.lenB); exact rfl)
      | ((with_reducible apply R.isEq); exact rfl)
      | with_reducible apply R.op
      | with_reducible apply R.i2
      | with_reducible apply R.i0
      | with_reducible apply R.con
      | with_reducible apply R.cons
      | with_reducible apply R.nil
      | with_reducible apply R.gcons
      | with_reducible apply R.gname
      | ((with_reducible apply R.ixT); (focus ((repeat' (first | with_reducible assumption | with_reducible apply hU | ((with_reducible apply SqT.of); with_reducible assumption) | ((with_reducible apply same_seqT); with_reducible assumption) | ((with_reducible apply kp_seqT); with_reducible assumption) | ((with_reducible apply Dw.same); with_reducible assumption))); done)); exact rfl)
      | ((with_reducible apply R.ixL); (focus ((repeat' (first | with_reducible assumption | ((with_reducible apply SqL.of); with_reducible assumption) | ((with_reducible apply Same.seq); with_reducible assumption) | ((with_reducible apply Kp.seqL); with_reducible assumption) | ((with_reducible apply fresh_ne); with_reducible assumption) | ((with_reducible apply Dw.same); with_reducible assumption))); done)); exact rfl)
      | with_reducible assumption
      | with_reducible apply Bd.mulW
      | with_reducible apply Bd.mul
      | with_reducible apply Bd.add
      | with_reducible apply Bd.sub
      | ((with_reducible apply Bd.l8); exact eq_true (by decide))
      | ((with_reducible apply Bd.lit); exact eq_true (by decide))
      | with_reducible apply Bd.neg
      | with_reducible apply Bd.div
      | with_reducible apply Bd.abs
      | with_reducible apply Bd.mod
      | with_reducible apply Bd.fdiv
      | ((with_reducible apply Bd.om); omega)
      | ((with_reducible apply R.isLe); first | decide | omega)
      | with_reducible apply R.un
      | with_reducible apply R.u1
      | with_reducible apply R.tup
      | with_reducible apply R.lst
      | with_reducible apply R.call
      | with_reducible apply R.callB
      | with_reducible apply R.gtup
      | with_reducible apply R.gnil
      | with_reducible apply R.seq
      | with_reducible apply R.asg
      | with_reducible apply R.ret
      | with_reducible apply R.brk
      | with_reducible apply R.cont
      | with_reducible apply R.next
      | with_reducible apply R.drop
      | with_reducible apply R.par
      | with_reducible apply R.par2
      | with_reducible apply R.ifs
      | with_reducible apply R.tif
      | with_reducible apply R.test
      | with_reducible apply R.tb'
      | with_reducible apply R.isbl
      | with_reducible apply R.cmp
      | with_reducible apply R.t2i
      | with_reducible apply R.intp
      | with_reducible apply R.and
      | with_reducible apply R.or
      | with_reducible apply R.not
      | with_reducible apply R.andV
      | with_reducible apply R.orV
      | with_reducible apply R.notV
      | with_reducible apply R.chain
      | with_reducible apply R.tupL
      | with_reducible apply R.lstL
      | with_reducible apply R.cat
      | with_reducible apply R.absI
      | with_reducible apply R.intI
      | with_reducible apply R.intB
      | with_reducible apply R.eqS
      | with_reducible apply R.eqBl
      | with_reducible apply R.neBl
      | with_reducible apply R.sl
      | with_reducible apply R.noPart
      | with_reducible apply R.part
      | with_reducible apply R.isInt
      | with_reducible apply R.slL
      | with_reducible apply R.isiT
      | with_reducible apply R.isiLst
      | with_reducible apply R.nwT
      | with_reducible apply R.nwL
      | ((with_reducible apply R.mt); intro HN tn sn nn ht)
      | ((with_reducible apply R.ml); intro HN tn sn nn ht)
      | ((with_reducible apply R.isiTupS); focus ((repeat' (first | with_reducible assumption | with_reducible apply hU | ((with_reducible apply SqT.of); with_reducible assumption) | ((with_reducible apply same_seqT); with_reducible assumption) | ((with_reducible apply kp_seqT); with_reducible assumption) | ((with_reducible apply Dw.same); with_reducible assumption))); done))
      | ((with_reducible apply R.ne4); focus ((repeat' (first | with_reducible assumption | with_reducible apply hU | ((with_reducible apply SqT.of); with_reducible assumption) | ((with_reducible apply same_seqT); with_reducible assumption) | ((with_reducible apply kp_seqT); with_reducible assumption) | ((with_reducible apply Dw.same); with_reducible assumption))); done))
      | ((with_reducible apply R.ne3); focus ((repeat' (first | with_reducible assumption | with_reducible apply hU | ((with_reducible apply SqT.of); with_reducible assumption) | ((with_reducible apply same_seqT); with_reducible assumption) | ((with_reducible apply kp_seqT); with_reducible assumption) | ((with_reducible apply Dw.same); with_reducible assumption))); done))
      | ((with_reducible apply R.ne2); focus ((repeat' (first | with_reducible assumption | with_reducible apply hU | ((with_reducible apply SqT.of); with_reducible assumption) | ((with_reducible apply same_seqT); with_reducible assumption) | ((with_reducible apply kp_seqT); with_reducible assumption) | ((with_reducible apply Dw.same); with_reducible assumption))); done))
      | ((with_reducible apply R.eq4); focus ((repeat' (first | with_reducible assumption | with_reducible apply hU | ((with_reducible apply SqT.of); with_reducible assumption) | ((with_reducible apply same_seqT); with_reducible assumption) | ((with_reducible apply kp_seqT); with_reducible assumption) | ((with_reducible apply Dw.same); with_reducible assumption))); done))
      | ((with_reducible apply R.eq3); focus ((repeat' (first | with_reducible assumption | with_reducible apply hU | ((with_reducible apply SqT.of); with_reducible assumption) | ((with_reducible apply same_seqT); with_reducible assumption) | ((with_reducible apply kp_seqT); with_reducible assumption) | ((with_reducible apply Dw.same); with_reducible assumption))); done))
      | ((with_reducible apply R.eq2); focus ((repeat' (first | with_reducible assumption | with_reducible apply hU | ((with_reducible apply SqT.of); with_reducible assumption) | ((with_reducible apply same_seqT); with_reducible assumption) | ((with_reducible apply kp_seqT); with_reducible assumption) | ((with_reducible apply Dw.same); with_reducible assumption))); done))
      | with_reducible apply uLawNext
      | with_reducible apply uLawWide
      | with_reducible apply uValueAt
      | with_reducible apply uIsSquare
      | ((with_reducible apply R.nw); intro HN tn sn ht)
      | with_reducible apply iteT
      | with_reducible apply iteF
      | with_reducible apply R.notT
      | with_reducible apply R.notF
      | ((with_reducible apply SqT.of); with_reducible assumption)
      | ((with_reducible apply SqL.of); with_reducible assumption)
      | ((with_reducible apply same_seqT); with_reducible assumption)
      | ((with_reducible apply sameB); with_reducible assumption)
      | ((with_reducible apply same_at); with_reducible assumption)
      | ((with_reducible apply kp_seqT); with_reducible assumption)
      | ((with_reducible apply Same.seq); with_reducible assumption)
      | ((with_reducible apply Kp.seqL); with_reducible assumption)
      | ((with_reducible apply fresh_ne); with_reducible assumption)
      | ((with_reducible apply Dw.same); with_reducible assumption)
      | ((with_reducible apply R.isEq); exact eq_true (by first | decide | omega))
      | ((with_reducible apply R.isLt); first | decide | omega)
      | ((with_reducible apply R.isLtI); first | decide | omega)
      | ((with_reducible apply R.isLeI); first | decide | omega)
      | ((with_reducible apply R.cdiv); exact rfl)
      | ((with_reducible apply R.cpow); exact rfl)
      | with_reducible apply R.cdivX
      | ((with_reducible apply R.isNe); omega)
      | with_reducible apply hU
      | ((with_reducible apply wayNF); first | exact rfl | exact ⟨rfl, rfl⟩ | exact ⟨rfl, rfl, rfl⟩ | exact ⟨rfl, rfl, rfl, rfl⟩)
      | with_reducible apply R.bm
      | ((with_reducible apply R.bmT); (focus ((first | with_reducible assumption | ((with_reducible apply same_at); with_reducible assumption) | ((with_reducible apply kp_at); with_reducible assumption)); done)))
      | with_reducible apply R.dput
      | with_reducible apply R.dget
      | with_reducible apply R.din
      | with_reducible apply R.dget2
      | with_reducible apply R.forE
      | with_reducible apply R.rng1
      | with_reducible apply R.rng2
      | with_reducible apply R.rg1
      | with_reducible apply R.rg2
      | with_reducible apply R.lcE
      | with_reducible apply R.itup
      | with_reducible apply R.ilst
      )
    have sA : SqT K HN tn [.int g, .int (-g * (r3 - 20 + (r4 - 20))), .int (g * (r3 - 20) * (r4 - 20))] := SqT.of ht
    generalize tn = uA at *
    intro r6 H7 r6a r6b d7 k7
    repeat' (first
      | with_reducible apply R.var
      | with_reducible apply R.gsE
      | ((with_reducible apply R.gsN); (focus exact rfl))
      | with_reducible apply R.lenS
      | ((with_reducible apply R.lenB); exact rfl)
      | ((with_reducible apply R.isEq); exact rfl)
      | with_reducible apply R.op
      | with_reducible apply R.i2
      | with_reducible apply R.i0
      | with_reducible apply R.con
      | with_reducible apply R.cons
      | with_reducible apply R.nil
      | with_reducible apply R.gcons
      | with_reducible apply R.gname
      | ((with_reducible apply R.ixT); (focus ((repeat' (first | with_reducible assumption | with_reducible apply hU | ((with_reducible apply SqT.of); with_reducible assumption) | ((with_reducible apply same_seqT); with_reducible assumption) | ((with_reducible apply kp_seqT); with_reducible assumption) | ((with_reducible apply Dw.same); with_reducible assumption))); done)); exact rfl)
      | ((with_reducible apply R.ixL); (focus ((repeat' (first | with_reducible assumption | ((with_reducible apply SqL.of); with_reducible assumption) | ((with_reducible apply Same.seq); with_reducible assumption) | ((with_reducible apply Kp.seqL); with_reducible assumption) | ((with_reducible apply fresh_ne); with_reducible assumption) | ((with_reducible apply Dw.same); with_reducible assumption))); done)); exact rfl)
      | with_reducible assumption
      | with_reducible apply Bd.mulW
      | with_reducible apply Bd.mul
      | with_reducible apply Bd.add
      | with_reducible apply Bd.sub
      | ((with_reducible apply Bd.l8); exact eq_true (by decide))
      | ((with_reducible apply Bd.lit); exact eq_true (by decide))
      | with_reducible apply Bd.neg
      | with_reducible apply Bd.div
      | with_reducible apply Bd.abs
      | with_reducible apply Bd.mod
      | with_reducible apply Bd.fdiv
      | ((with_reducible apply Bd.om); omega)
      | ((with_reducible apply R.isLe); first | decide | omega)
      | with_reducible apply R.un
      | with_reducible apply R.u1
      | with_reducible apply R.tup
      | with_reducible apply R.lst
      | with_reducible apply R.call
      | with_reducible apply R.callB
      | with_reducible apply R.gtup
      | with_reducible apply R.gnil
      | with_reducible apply R.seq
      | with_reducible apply R.asg
      | with_reducible apply R.ret
      | with_reducible apply R.brk
      | with_reducible apply R.cont
      | with_reducible apply R.next
      | with_reducible apply R.drop
      | with_reducible apply R.par
      | with_reducible apply R.par2
      | with_reducible apply R.ifs
      | with_reducible apply R.tif
      | with_reducible apply R.test
      | with_reducible apply R.tb'
      | with_reducible apply R.isbl
      | with_reducible apply R.cmp
      | with_reducible apply R.t2i
      | with_reducible apply R.intp
      | with_reducible apply R.and
      | with_reducible apply R.or
      | with_reducible apply R.not
      | with_reducible apply R.andV
      | with_reducible apply R.orV
      | with_reducible apply R.notV
      | with_reducible apply R.chain
      | with_reducible apply R.tupL
      | with_reducible apply R.lstL
      | with_reducible apply R.cat
      | with_reducible apply R.absI
      | with_reducible apply R.intI
      | with_reducible apply R.intB
      | with_reducible apply R.eqS
      | with_reducible apply R.eqBl
      | with_reducible apply R.neBl
      | with_reducible apply R.sl
      | with_reducible apply R.noPart
      | with_reducible apply R.part
      | with_reducible apply R.isInt
      | with_reducible apply R.slL
      | with_reducible apply R.isiT
      | with_reducible apply R.isiLst
      | with_reducible apply R.nwT
      | with_reducible apply R.nwL
      | ((with_reducible apply R.mt); intro HN tn sn nn ht)
      | ((with_reducible apply R.ml); intro HN tn sn nn ht)
      | ((with_reducible apply R.isiTupS); focus ((repeat' (first | with_reducible assumption | with_reducible apply hU | ((with_reducible apply SqT.of); with_reducible assumption) | ((with_reducible apply same_seqT); with_reducible assumption) | ((with_reducible apply kp_seqT); with_reducible assumption) | ((with_reducible apply Dw.same); with_reducible assumption))); done))
      | ((with_reducible apply R.ne4); focus ((repeat' (first | with_reducible assumption | with_reducible apply hU | ((with_reducible apply SqT.of); with_reducible assumption) | ((with_reducible apply same_seqT); with_reducible assumption) | ((with_reducible apply kp_seqT); with_reducible assumption) | ((with_reducible apply Dw.same); with_reducible assumption))); done))
      | ((with_reducible apply R.ne3); focus ((repeat' (first | with_reducible assumption | with_reducible apply hU | ((with_reducible apply SqT.of); with_reducible assumption) | ((with_reducible apply same_seqT); with_reducible assumption) | ((with_reducible apply kp_seqT); with_reducible assumption) | ((with_reducible apply Dw.same); with_reducible assumption))); done))
      | ((with_reducible apply R.ne2); focus ((repeat' (first | with_reducible assumption | with_reducible apply hU | ((with_reducible apply SqT.of); with_reducible assumption) | ((with_reducible apply same_seqT); with_reducible assumption) | ((with_reducible apply kp_seqT); with_reducible assumption) | ((with_reducible apply Dw.same); with_reducible assumption))); done))
      | ((with_reducible apply R.eq4); focus ((repeat' (first | with_reducible assumption | with_reducible apply hU | ((with_reducible apply SqT.of); with_reducible assumption) | ((with_reducible apply same_seqT); with_reducible assumption) | ((with_reducible apply kp_seqT); with_reducible assumption) | ((with_reducible apply Dw.same); with_reducible assumption))); done))
      | ((with_reducible apply R.eq3); focus ((repeat' (first | with_reducible assumption | with_reducible apply hU | ((with_reducible apply SqT.of); with_reducible assumption) | ((with_reducible apply same_seqT); with_reducible assumption) | ((with_reducible apply kp_seqT); with_reducible assumption) | ((with_reducible apply Dw.same); with_reducible assumption))); done))
      | ((with_reducible apply R.eq2); focus ((repeat' (first | with_reducible assumption | with_reducible apply hU | ((with_reducible apply SqT.of); with_reducible assumption) | ((with_reducible apply same_seqT); with_reducible assumption) | ((with_reducible apply kp_seqT); with_reducible assumption) | ((with_reducible apply Dw.same); with_reducible assumption))); done))
      | with_reducible apply uLawNext
      | with_reducible apply uLawWide
      | with_reducible apply uValueAt
      | with_reducible apply uIsSquare
      | ((with_reducible apply R.nw); intro HN tn sn ht)
      | with_reducible apply iteT
      | with_reducible apply iteF
      | with_reducible apply R.notT
      | with_reducible apply R.notF
      | ((with_reducible apply SqT.of); with_reducible assumption)
      | ((with_reducible apply SqL.of); with_reducible assumption)
      | ((with_reducible apply same_seqT); with_reducible assumption)
      | ((with_reducible apply sameB); with_reducible assumption)
      | ((with_reducible apply same_at); with_reducible assumption)
      | ((with_reducible apply kp_seqT); with_reducible assumption)
      | ((with_reducible apply Same.seq); with_reducible assumption)
      | ((with_reducible apply Kp.seqL); with_reducible assumption)
      | ((with_reducible apply fresh_ne); with_reducible assumption)
      | ((with_reducible apply Dw.same); with_reducible assumption)
      | ((with_reducible apply R.isEq); exact eq_true (by first | decide | omega))
      | ((with_reducible apply R.isLt); first | decide | omega)
      | ((with_reducible apply R.isLtI); first | decide | omega)
      | ((with_reducible apply R.isLeI); first | decide | omega)
      | ((with_reducible apply R.cdiv); exact rfl)
      | ((with_reducible apply R.cpow); exact rfl)
      | with_reducible apply R.cdivX
      | ((with_reducible apply R.isNe); omega)
      | with_reducible apply hU
      | ((with_reducible apply wayNF); first | exact rfl | exact ⟨rfl, rfl⟩ | exact ⟨rfl, rfl, rfl⟩ | exact ⟨rfl, rfl, rfl, rfl⟩)
      | with_reducible apply R.bm
      | ((with_reducible apply R.bmT); (focus ((first | with_reducible assumption | ((with_reducible apply same_at); with_reducible assumption) | ((with_reducible apply kp_at); with_reducible assumption)); done)))
      | with_reducible apply R.dput
      | with_reducible apply R.dget
      | with_reducible apply R.din
      | with_reducible apply R.dget2
      | with_reducible apply R.forE
      | with_reducible apply R.rng1
      | with_reducible apply R.rng2
      | with_reducible apply R.rg1
      | with_reducible apply R.rg2
      | with_reducible apply R.lcE
      | with_reducible apply R.itup
      | with_reducible apply R.ilst
      )
    rename_i HB uB sB nB htB
    have sB' : SqT K HB uB _ := SqT.of htB
    have sC : SqT K HN tn _ := SqT.of ht
    generalize tn = uC at *
    intro r7 H8 r7a r7b d8 k8
    repeat' (first
      | with_reducible apply R.var
      | with_reducible apply R.gsE
      | ((with_reducible apply R.gsN); (focus exact rfl))
      | with_reducible apply R.lenS
      | ((with_reducible apply R.lenB); exact rfl)
      | ((with_reducible apply R.isEq); exact rfl)
      | with_reducible apply R.op
      | with_reducible apply R.i2
      | with_reducible apply R.i0
      | with_reducible apply R.con
      | with_reducible apply R.cons
      | with_reducible apply R.nil
      | with_reducible apply R.gcons
      | with_reducible apply R.gname
      | ((with_reducible apply R.ixT); (focus ((repeat' (first | with_reducible assumption | with_reducible apply hU | ((with_reducible apply SqT.of); with_reducible assumption) | ((with_reducible apply same_seqT); with_reducible assumption) | ((with_reducible apply kp_seqT); with_reducible assumption) | ((with_reducible apply Dw.same); with_reducible assumption))); done)); exact rfl)
      | ((with_reducible apply R.ixL); (focus ((repeat' (first | with_reducible assumption | ((with_reducible apply SqL.of); with_reducible assumption) | ((with_reducible apply Same.seq); with_reducible assumption) | ((with_reducible apply Kp.seqL); with_reducible assumption) | ((with_reducible apply fresh_ne); with_reducible assumption) | ((with_reducible apply Dw.same); with_reducible assumption))); done)); exact rfl)
      | with_reducible assumption
      | with_reducible apply Bd.mulW
      | with_reducible apply Bd.mul
      | with_reducible apply Bd.add
      | with_reducible apply Bd.sub
      | ((with_reducible apply Bd.l8); exact eq_true (by decide))
      | ((with_reducible apply Bd.lit); exact eq_true (by decide))
      | with_reducible apply Bd.neg
      | with_reducible apply Bd.div
      | with_reducible apply Bd.abs
      | with_reducible apply Bd.mod
      | with_reducible apply Bd.fdiv
      | ((with_reducible apply Bd.om); omega)
      | ((with_reducible apply R.isLe); first | decide | omega)
      | with_reducible apply R.un
      | with_reducible apply R.u1
      | with_reducible apply R.tup
      | with_reducible apply R.lst
      | with_reducible apply R.call
      | with_reducible apply R.callB
      | with_reducible apply R.gtup
      | with_reducible apply R.gnil
      | with_reducible apply R.seq
      | with_reducible apply R.asg
      | with_reducible apply R.ret
      | with_reducible apply R.brk
      | with_reducible apply R.cont
      | with_reducible apply R.next
      | with_reducible apply R.drop
      | with_reducible apply R.par
      | with_reducible apply R.par2
      | with_reducible apply R.ifs
      | with_reducible apply R.tif
      | with_reducible apply R.test
      | with_reducible apply R.tb'
      | with_reducible apply R.isbl
      | with_reducible apply R.cmp
      | with_reducible apply R.t2i
      | with_reducible apply R.intp
      | with_reducible apply R.and
      | with_reducible apply R.or
      | with_reducible apply R.not
      | with_reducible apply R.andV
      | with_reducible apply R.orV
      | with_reducible apply R.notV
      | with_reducible apply R.chain
      | with_reducible apply R.tupL
      | with_reducible apply R.lstL
      | with_reducible apply R.cat
      | with_reducible apply R.absI
      | with_reducible apply R.intI
      | with_reducible apply R.intB
      | with_reducible apply R.eqS
      | with_reducible apply R.eqBl
      | with_reducible apply R.neBl
      | with_reducible apply R.sl
      | with_reducible apply R.noPart
      | with_reducible apply R.part
      | with_reducible apply R.isInt
      | with_reducible apply R.slL
      | with_reducible apply R.isiT
      | with_reducible apply R.isiLst
      | with_reducible apply R.nwT
      | with_reducible apply R.nwL
      | ((with_reducible apply R.mt); intro HN tn sn nn ht)
      | ((with_reducible apply R.ml); intro HN tn sn nn ht)
      | ((with_reducible apply R.isiTupS); focus ((repeat' (first | with_reducible assumption | with_reducible apply hU | ((with_reducible apply SqT.of); with_reducible assumption) | ((with_reducible apply same_seqT); with_reducible assumption) | ((with_reducible apply kp_seqT); with_reducible assumption) | ((with_reducible apply Dw.same); with_reducible assumption))); done))
      | ((with_reducible apply R.ne4); focus ((repeat' (first | with_reducible assumption | with_reducible apply hU | ((with_reducible apply SqT.of); with_reducible assumption) | ((with_reducible apply same_seqT); with_reducible assumption) | ((with_reducible apply kp_seqT); with_reducible assumption) | ((with_reducible apply Dw.same); with_reducible assumption))); done))
      | ((with_reducible apply R.ne3); focus ((repeat' (first | with_reducible assumption | with_reducible apply hU | ((with_reducible apply SqT.of); with_reducible assumption) | ((with_reducible apply same_seqT); with_reducible assumption) | ((with_reducible apply kp_seqT); with_reducible assumption) | ((with_reducible apply Dw.same); with_reducible assumption))); done))
      | ((with_reducible apply R.ne2); focus ((repeat' (first | with_reducible assumption | with_reducible apply hU | ((with_reducible apply SqT.of); with_reducible assumption) | ((with_reducible apply same_seqT); with_reducible assumption) | ((with_reducible apply kp_seqT); with_reducible assumption) | ((with_reducible apply Dw.same); with_reducible assumption))); done))
      | ((with_reducible apply R.eq4); focus ((repeat' (first | with_reducible assumption | with_reducible apply hU | ((with_reducible apply SqT.of); with_reducible assumption) | ((with_reducible apply same_seqT); with_reducible assumption) | ((with_reducible apply kp_seqT); with_reducible assumption) | ((with_reducible apply Dw.same); with_reducible assumption))); done))
      | ((with_reducible apply R.eq3); focus ((repeat' (first | with_reducible assumption | with_reducible apply hU | ((with_reducible apply SqT.of); with_reducible assumption) | ((with_reducible apply same_seqT); with_reducible assumption) | ((with_reducible apply kp_seqT); with_reducible assumption) | ((with_reducible apply Dw.same); with_reducible assumption))); done))
      | ((with_reducible apply R.eq2); focus ((repeat' (first | with_reducible assumption | with_reducible apply hU | ((with_reducible apply SqT.of); with_reducible assumption) | ((with_reducible apply same_seqT); with_reducible assumption) | ((with_reducible apply kp_seqT); with_reducible assumption) | ((with_reducible apply Dw.same); with_reducible assumption))); done))
      | with_reducible apply uLawNext
      | with_reducible apply uLawWide
      | with_reducible apply uValueAt
      | with_reducible apply uIsSquare
      | ((with_reducible apply R.nw); intro HN tn sn ht)
      | with_reducible apply iteT
      | with_reducible apply iteF
      | with_reducible apply R.notT
      | with_reducible apply R.notF
      | ((with_reducible apply SqT.of); with_reducible assumption)
      | ((with_reducible apply SqL.of); with_reducible assumption)
      | ((with_reducible apply same_seqT); with_reducible assumption)
      | ((with_reducible apply sameB); with_reducible assumption)
      | ((with_reducible apply same_at); with_reducible assumption)
      | ((with_reducible apply kp_seqT); with_reducible assumption)
      | ((with_reducible apply Same.seq); with_reducible assumption)
      | ((with_reducible apply Kp.seqL); with_reducible assumption)
      | ((with_reducible apply fresh_ne); with_reducible assumption)
      | ((with_reducible apply Dw.same); with_reducible assumption)
      | ((with_reducible apply R.isEq); exact eq_true (by first | decide | omega))
      | ((with_reducible apply R.isLt); first | decide | omega)
      | ((with_reducible apply R.isLtI); first | decide | omega)
      | ((with_reducible apply R.isLeI); first | decide | omega)
      | ((with_reducible apply R.cdiv); exact rfl)
      | ((with_reducible apply R.cpow); exact rfl)
      | with_reducible apply R.cdivX
      | ((with_reducible apply R.isNe); omega)
      | with_reducible apply hU
      | ((with_reducible apply wayNF); first | exact rfl | exact ⟨rfl, rfl⟩ | exact ⟨rfl, rfl, rfl⟩ | exact ⟨rfl, rfl, rfl, rfl⟩)
      | with_reducible apply R.bm
      | ((with_reducible apply R.bmT); (focus ((first | with_reducible assumption | ((with_reducible apply same_at); with_reducible assumption) | ((with_reducible apply kp_at); with_reducible assumption)); done)))
      | with_reducible apply R.dput
      | with_reducible apply R.dget
      | with_reducible apply R.din
      | with_reducible apply R.dget2
      | with_reducible apply R.forE
      | with_reducible apply R.rng1
      | with_reducible apply R.rng2
      | with_reducible apply R.rg1
      | with_reducible apply R.rg2
      | with_reducible apply R.lcE
      | with_reducible apply R.itup
      | with_reducible apply R.ilst
      )
    intro r8 H9 r8a r8b d9 k9
    repeat' (first
      | with_reducible apply R.var
      | with_reducible apply R.gsE
      | ((with_reducible apply R.gsN); (focus exact rfl))
      | with_reducible apply R.lenS
      | ((with_reducible apply R.lenB); exact rfl)
      | ((with_reducible apply R.isEq); exact rfl)
      | with_reducible apply R.op
      | with_reducible apply R.i2
      | with_reducible apply R.i0
      | with_reducible apply R.con
      | with_reducible apply R.cons
      | with_reducible apply R.nil
      | with_reducible apply R.gcons
      | with_reducible apply R.gname
      | ((with_reducible apply R.ixT); (focus ((repeat' (first | with_reducible assumption | with_reducible apply hU | ((with_reducible apply SqT.of); with_reducible assumption) | ((with_reducible apply same_seqT); with_reducible assumption) | ((with_reducible apply kp_seqT); with_reducible assumption) | ((with_reducible apply Dw.same); with_reducible assumption))); done)); exact rfl)
      | ((with_reducible apply R.ixL); (focus ((repeat' (first | with_reducible assumption | ((with_reducible apply SqL.of); with_reducible assumption) | ((with_reducible apply Same.seq); with_reducible assumption) | ((with_reducible apply Kp.seqL); with_reducible assumption) | ((with_reducible apply fresh_ne); with_reducible assumption) | ((with_reducible apply Dw.same); with_reducible assumption))); done)); exact rfl)
      | with_reducible assumption
      | with_reducible apply Bd.mulW
      | with_reducible apply Bd.mul
      | with_reducible apply Bd.add
      | with_reducible apply Bd.sub
      | ((with_reducible apply Bd.l8); exact eq_true (by decide))
      | ((with_reducible apply Bd.lit); exact eq_true (by decide))
      | with_reducible apply Bd.neg
      | with_reducible apply Bd.div
      | with_reducible apply Bd.abs
      | with_reducible apply Bd.mod
      | with_reducible apply Bd.fdiv
      | ((with_reducible apply Bd.om); omega)
      | ((with_reducible apply R.isLe); first | decide | omega)
      | with_reducible apply R.un
      | with_reducible apply R.u1
      | with_reducible apply R.tup
      | with_reducible apply R.lst
      | with_reducible apply R.call
      | with_reducible apply R.callB
      | with_reducible apply R.gtup
      | with_reducible apply R.gnil
      | with_reducible apply R.seq
      | with_reducible apply R.asg
      | with_reducible apply R.ret
      | with_reducible apply R.brk
      | with_reducible apply R.cont
      | with_reducible apply R.next
      | with_reducible apply R.drop
      | with_reducible apply R.par
      | with_reducible apply R.par2
      | with_reducible apply R.ifs
      | with_reducible apply R.tif
      | with_reducible apply R.test
      | with_reducible apply R.tb'
      | with_reducible apply R.isbl
      | with_reducible apply R.cmp
      | with_reducible apply R.t2i
      | with_reducible apply R.intp
      | with_reducible apply R.and
      | with_reducible apply R.or
      | with_reducible apply R.not
      | with_reducible apply R.andV
      | with_reducible apply R.orV
      | with_reducible apply R.notV
      | with_reducible apply R.chain
      | with_reducible apply R.tupL
      | with_reducible apply R.lstL
      | with_reducible apply R.cat
      | with_reducible apply R.absI
      | with_reducible apply R.intI
      | with_reducible apply R.intB
      | with_reducible apply R.eqS
      | with_reducible apply R.eqBl
      | with_reducible apply R.neBl
      | with_reducible apply R.sl
      | with_reducible apply R.noPart
      | with_reducible apply R.part
      | with_reducible apply R.isInt
      | with_reducible apply R.slL
      | with_reducible apply R.isiT
      | with_reducible apply R.isiLst
      | with_reducible apply R.nwT
      | with_reducible apply R.nwL
      | ((with_reducible apply R.mt); intro HN tn sn nn ht)
      | ((with_reducible apply R.ml); intro HN tn sn nn ht)
      | ((with_reducible apply R.isiTupS); focus ((repeat' (first | with_reducible assumption | with_reducible apply hU | ((with_reducible apply SqT.of); with_reducible assumption) | ((with_reducible apply same_seqT); with_reducible assumption) | ((with_reducible apply kp_seqT); with_reducible assumption) | ((with_reducible apply Dw.same); with_reducible assumption))); done))
      | ((with_reducible apply R.ne4); focus ((repeat' (first | with_reducible assumption | with_reducible apply hU | ((with_reducible apply SqT.of); with_reducible assumption) | ((with_reducible apply same_seqT); with_reducible assumption) | ((with_reducible apply kp_seqT); with_reducible assumption) | ((with_reducible apply Dw.same); with_reducible assumption))); done))
      | ((with_reducible apply R.ne3); focus ((repeat' (first | with_reducible assumption | with_reducible apply hU | ((with_reducible apply SqT.of); with_reducible assumption) | ((with_reducible apply same_seqT); with_reducible assumption) | ((with_reducible apply kp_seqT); with_reducible assumption) | ((with_reducible apply Dw.same); with_reducible assumption))); done))
      | ((with_reducible apply R.ne2); focus ((repeat' (first | with_reducible assumption | with_reducible apply hU | ((with_reducible apply SqT.of); with_reducible assumption) | ((with_reducible apply same_seqT); with_reducible assumption) | ((with_reducible apply kp_seqT); with_reducible assumption) | ((with_reducible apply Dw.same); with_reducible assumption))); done))
      | ((with_reducible apply R.eq4); focus ((repeat' (first | with_reducible assumption | with_reducible apply hU | ((with_reducible apply SqT.of); with_reducible assumption) | ((with_reducible apply same_seqT); with_reducible assumption) | ((with_reducible apply kp_seqT); with_reducible assumption) | ((with_reducible apply Dw.same); with_reducible assumption))); done))
      | ((with_reducible apply R.eq3); focus ((repeat' (first | with_reducible assumption | with_reducible apply hU | ((with_reducible apply SqT.of); with_reducible assumption) | ((with_reducible apply same_seqT); with_reducible assumption) | ((with_reducible apply kp_seqT); with_reducible assumption) | ((with_reducible apply Dw.same); with_reducible assumption))); done))
      | ((with_reducible apply R.eq2); focus ((repeat' (first | with_reducible assumption | with_reducible apply hU | ((with_reducible apply SqT.of); with_reducible assumption) | ((with_reducible apply same_seqT); with_reducible assumption) | ((with_reducible apply kp_seqT); with_reducible assumption) | ((with_reducible apply Dw.same); with_reducible assumption))); done))
      | with_reducible apply uLawNext
      | with_reducible apply uLawWide
      | with_reducible apply uValueAt
      | with_reducible apply uIsSquare
      | ((with_reducible apply R.nw); intro HN tn sn ht)
      | with_reducible apply iteT
      | with_reducible apply iteF
      | with_reducible apply R.notT
      | with_reducible apply R.notF
      | ((with_reducible apply SqT.of); with_reducible assumption)
      | ((with_reducible apply SqL.of); with_reducible assumption)
      | ((with_reducible apply same_seqT); with_reducible assumption)
      | ((with_reducible apply sameB); with_reducible assumption)
      | ((with_reducible apply same_at); with_reducible assumption)
      | ((with_reducible apply kp_seqT); with_reducible assumption)
      | ((with_reducible apply Same.seq); with_reducible assumption)
      | ((with_reducible apply Kp.seqL); with_reducible assumption)
      | ((with_reducible apply fresh_ne); with_reducible assumption)
      | ((with_reducible apply Dw.same); with_reducible assumption)
      | ((with_reducible apply R.isEq); exact eq_true (by first | decide | omega))
      | ((with_reducible apply R.isLt); first | decide | omega)
      | ((with_reducible apply R.isLtI); first | decide | omega)
      | ((with_reducible apply R.isLeI); first | decide | omega)
      | ((with_reducible apply R.cdiv); exact rfl)
      | ((with_reducible apply R.cpow); exact rfl)
      | with_reducible apply R.cdivX
      | ((with_reducible apply R.isNe); omega)
      | with_reducible apply hU
      | ((with_reducible apply wayNF); first | exact rfl | exact ⟨rfl, rfl⟩ | exact ⟨rfl, rfl, rfl⟩ | exact ⟨rfl, rfl, rfl, rfl⟩)
      | with_reducible apply R.bm
      | ((with_reducible apply R.bmT); (focus ((first | with_reducible assumption | ((with_reducible apply same_at); with_reducible assumption) | ((with_reducible apply kp_at); with_reducible assumption)); done)))
      | with_reducible apply R.dput
      | with_reducible apply R.dget
      | with_reducible apply R.din
      | with_reducible apply R.dget2
      | with_reducible apply R.forE
      | with_reducible apply R.rng1
      | with_reducible apply R.rng2
      | with_reducible apply R.rg1
      | with_reducible apply R.rg2
      | with_reducible apply R.lcE
      | with_reducible apply R.itup
      | with_reducible apply R.ilst
      )
    rename_i HD uD sD nD htD
    have sD' : SqT K HD uD _ := SqT.of htD
    intro r9 H10 r9a r9b d10 k10
    obtain ⟨t, a, b, c, et, st, hab, na, nb, nc⟩ : ∃ t a b c, atI [V.ref uA, V.ref uB, V.ref uC, V.ref uD] r9 = some (.ref t) ∧ SqT K H10 t [.int a, .int b, .int c] ∧ (a ≠ 0 ∨ (b ≠ 0 ∧ c.natAbs ≤ 900)) ∧ a.natAbs ≤ 15 ∧ b.natAbs ≤ 450 ∧ c.natAbs ≤ 2000 := by
      obtain rfl | rfl | rfl | rfl : r9 = 0 ∨ r9 = 1 ∨ r9 = 2 ∨ r9 = 3 := by omega
      · exact ⟨_, _, _, _, rfl, by (repeat' (first | with_reducible assumption | with_reducible apply hU | ((with_reducible apply SqT.of); with_reducible assumption) | ((with_reducible apply same_seqT); with_reducible assumption) | ((with_reducible apply kp_seqT); with_reducible assumption) | ((with_reducible apply Dw.same); with_reducible assumption))), .inl hg.2, by omega, by omega, by omega⟩
      · exact ⟨_, _, _, _, rfl, by (repeat' (first | with_reducible assumption | with_reducible apply hU | ((with_reducible apply SqT.of); with_reducible assumption) | ((with_reducible apply same_seqT); with_reducible assumption) | ((with_reducible apply kp_seqT); with_reducible assumption) | ((with_reducible apply Dw.same); with_reducible assumption))), .inr ⟨hg.2, by omega⟩, by omega, by omega, by omega⟩
      · exact ⟨_, _, _, _, rfl, by (repeat' (first | with_reducible assumption | with_reducible apply hU | ((with_reducible apply SqT.of); with_reducible assumption) | ((with_reducible apply same_seqT); with_reducible assumption) | ((with_reducible apply kp_seqT); with_reducible assumption) | ((with_reducible apply Dw.same); with_reducible assumption))), .inl ngh, by omega, by omega, by omega⟩
      · exact ⟨_, _, _, _, rfl, by (repeat' (first | with_reducible assumption | with_reducible apply hU | ((with_reducible apply SqT.of); with_reducible assumption) | ((with_reducible apply same_seqT); with_reducible assumption) | ((with_reducible apply kp_seqT); with_reducible assumption) | ((with_reducible apply Dw.same); with_reducible assumption))), .inl hg.2, by omega, by omega, by omega⟩
    refine R.ixL (xs := [V.ref uA, V.ref uB, V.ref uC, V.ref uD]) (by (repeat' (first | with_reducible assumption | ((with_reducible apply SqL.of); with_reducible assumption) | ((with_reducible apply Same.seq); with_reducible assumption) | ((with_reducible apply Kp.seqL); with_reducible assumption) | ((with_reducible apply fresh_ne); with_reducible assumption) | ((with_reducible apply Dw.same); with_reducible assumption)))) et ?_
    clear sA sB' sC sD' htB htD mgr mgs mgh mhs mrs m1 m2 m3 ngh d2 d3 d4 d5 d6 d7 d8 d9 k2 k3 k4 k5 k6 k7 k8 k9 k10
    have ba : Bd 4 a := Bd.of na (by decide)
    have bb : Bd 9 b := Bd.of nb (by decide)
    have bc : Bd 11 c := Bd.of nc (by decide)
    have hab2 : a ≠ 0 ∨ b ≠ 0 := hab.elim .inl (fun h => .inr h.1)
    repeat' (first
      | with_reducible apply R.var
      | with_reducible apply R.gsE
      | ((with_reducible apply R.gsN); (focus exact rfl))
      | with_reducible apply R.lenS
      | ((with_reducible apply R.lenB); exact rfl)
      | ((with_reducible apply R.isEq); exact rfl)
      | with_reducible apply R.op
      | with_reducible apply R.i2
      | with_reducible apply R.i0
      | with_reducible apply R.con
      | with_reducible apply R.cons
      | with_reducible apply R.nil
      | with_reducible apply R.gcons
      | with_reducible apply R.gname
      | ((with_reducible apply R.ixT); (focus ((repeat' (first | with_reducible assumption | with_reducible apply hU | ((with_reducible apply SqT.of); with_reducible assumption) | ((with_reducible apply same_seqT); with_reducible assumption) | ((with_reducible apply kp_seqT); with_reducible assumption) | ((with_reducible apply Dw.same); with_reducible assumption))); done)); exact rfl)
      | ((with_reducible apply R.ixL); (focus ((repeat' (first | with_reducible assumption | ((with_reducible apply SqL.of); with_reducible assumption) | ((with_reducible apply Same.seq); with_reducible assumption) | ((with_reducible apply Kp.seqL); with_reducible assumption) | ((with_reducible apply fresh_ne); with_reducible assumption) | ((with_reducible apply Dw.same); with_reducible assumption))); done)); exact rfl)
      | with_reducible assumption
      | with_reducible apply Bd.mulW
      | with_reducible apply Bd.mul
      | with_reducible apply Bd.add
      | with_reducible apply Bd.sub
      | ((with_reducible apply Bd.l8); exact eq_true (by decide))
      | ((with_reducible apply Bd.lit); exact eq_true (by decide))
      | with_reducible apply Bd.neg
      | with_reducible apply Bd.div
      | with_reducible apply Bd.abs
      | with_reducible apply Bd.mod
      | with_reducible apply Bd.fdiv
      | ((with_reducible apply Bd.om); omega)
      | ((with_reducible apply R.isLe); first | decide | omega)
      | with_reducible apply R.un
      | with_reducible apply R.u1
      | with_reducible apply R.tup
      | with_reducible apply R.lst
      | with_reducible apply R.call
      | with_reducible apply R.callB
      | with_reducible apply R.gtup
      | with_reducible apply R.gnil
      | with_reducible apply R.seq
      | with_reducible apply R.asg
      | with_reducible apply R.ret
      | with_reducible apply R.brk
      | with_reducible apply R.cont
      | with_reducible apply R.next
      | with_reducible apply R.drop
      | with_reducible apply R.par
      | with_reducible apply R.par2
      | with_reducible apply R.ifs
      | with_reducible apply R.tif
      | with_reducible apply R.test
      | with_reducible apply R.tb'
      | with_reducible apply R.isbl
      | with_reducible apply R.cmp
      | with_reducible apply R.t2i
      | with_reducible apply R.intp
      | with_reducible apply R.and
      | with_reducible apply R.or
      | with_reducible apply R.not
      | with_reducible apply R.andV
      | with_reducible apply R.orV
      | with_reducible apply R.notV
      | with_reducible apply R.chain
      | with_reducible apply R.tupL
      | with_reducible apply R.lstL
      | with_reducible apply R.cat
      | with_reducible apply R.absI
      | with_reducible apply R.intI
      | with_reducible apply R.intB
      | with_reducible apply R.eqS
      | with_reducible apply R.eqBl
      | with_reducible apply R.neBl
      | with_reducible apply R.sl
      | with_reducible apply R.noPart
      | with_reducible apply R.part
      | with_reducible apply R.isInt
      | with_reducible apply R.slL
      | with_reducible apply R.isiT
      | with_reducible apply R.isiLst
      | with_reducible apply R.nwT
      | with_reducible apply R.nwL
      | ((with_reducible apply R.mt); intro HN tn sn nn ht)
      | ((with_reducible apply R.ml); intro HN tn sn nn ht)
      | ((with_reducible apply R.isiTupS); focus ((repeat' (first | with_reducible assumption | with_reducible apply hU | ((with_reducible apply SqT.of); with_reducible assumption) | ((with_reducible apply same_seqT); with_reducible assumption) | ((with_reducible apply kp_seqT); with_reducible assumption) | ((with_reducible apply Dw.same); with_reducible assumption))); done))
      | ((with_reducible apply R.ne4); focus ((repeat' (first | with_reducible assumption | with_reducible apply hU | ((with_reducible apply SqT.of); with_reducible assumption) | ((with_reducible apply same_seqT); with_reducible assumption) | ((with_reducible apply kp_seqT); with_reducible assumption) | ((with_reducible apply Dw.same); with_reducible assumption))); done))
      | ((with_reducible apply R.ne3); focus ((repeat' (first | with_reducible assumption | with_reducible apply hU | ((with_reducible apply SqT.of); with_reducible assumption) | ((with_reducible apply same_seqT); with_reducible assumption) | ((with_reducible apply kp_seqT); with_reducible assumption) | ((with_reducible apply Dw.same); with_reducible assumption))); done))
      | ((with_reducible apply R.ne2); focus ((repeat' (first | with_reducible assumption | with_reducible apply hU | ((with_reducible apply SqT.of); with_reducible assumption) | ((with_reducible apply same_seqT); with_reducible assumption) | ((with_reducible apply kp_seqT); with_reducible assumption) | ((with_reducible apply Dw.same); with_reducible assumption))); done))
      | ((with_reducible apply R.eq4); focus ((repeat' (first | with_reducible assumption | with_reducible apply hU | ((with_reducible apply SqT.of); with_reducible assumption) | ((with_reducible apply same_seqT); with_reducible assumption) | ((with_reducible apply kp_seqT); with_reducible assumption) | ((with_reducible apply Dw.same); with_reducible assumption))); done))
      | ((with_reducible apply R.eq3); focus ((repeat' (first | with_reducible assumption | with_reducible apply hU | ((with_reducible apply SqT.of); with_reducible assumption) | ((with_reducible apply same_seqT); with_reducible assumption) | ((with_reducible apply kp_seqT); with_reducible assumption) | ((with_reducible apply Dw.same); with_reducible assumption))); done))
      | ((with_reducible apply R.eq2); focus ((repeat' (first | with_reducible assumption | with_reducible apply hU | ((with_reducible apply SqT.of); with_reducible assumption) | ((with_reducible apply same_seqT); with_reducible assumption) | ((with_reducible apply kp_seqT); with_reducible assumption) | ((with_reducible apply Dw.same); with_reducible assumption))); done))
      | with_reducible apply uLawNext
      | with_reducible apply uLawWide
      | with_reducible apply uValueAt
      | with_reducible apply uIsSquare
      | ((with_reducible apply R.nw); intro HN tn sn ht)
      | with_reducible apply iteT
      | with_reducible apply iteF
      | with_reducible apply R.notT
      | with_reducible apply R.notF
      | ((with_reducible apply SqT.of); with_reducible assumption)
      | ((with_reducible apply SqL.of); with_reducible assumption)
      | ((with_reducible apply same_seqT); with_reducible assumption)
      | ((with_reducible apply sameB); with_reducible assumption)
      | ((with_reducible apply same_at); with_reducible assumption)
      | ((with_reducible apply kp_seqT); with_reducible assumption)
      | ((with_reducible apply Same.seq); with_reducible assumption)
      | ((with_reducible apply Kp.seqL); with_reducible assumption)
      | ((with_reducible apply fresh_ne); with_reducible assumption)
      | ((with_reducible apply Dw.same); with_reducible assumption)
      | ((with_reducible apply R.isEq); exact eq_true (by first | decide | omega))
      | ((with_reducible apply R.isLt); first | decide | omega)
      | ((with_reducible apply R.isLtI); first | decide | omega)
      | ((with_reducible apply R.isLeI); first | decide | omega)
      | ((with_reducible apply R.cdiv); exact rfl)
      | ((with_reducible apply R.cpow); exact rfl)
      | with_reducible apply R.cdivX
      | ((with_reducible apply R.isNe); omega)
      | with_reducible apply hU
      | ((with_reducible apply wayNF); first | exact rfl | exact ⟨rfl, rfl⟩ | exact ⟨rfl, rfl, rfl⟩ | exact ⟨rfl, rfl, rfl, rfl⟩)
      | with_reducible apply R.bm
      | ((with_reducible apply R.bmT); (focus ((first | with_reducible assumption | ((with_reducible apply same_at); with_reducible assumption) | ((with_reducible apply kp_at); with_reducible assumption)); done)))
      | with_reducible apply R.dput
      | with_reducible apply R.dget
      | with_reducible apply R.din
      | with_reducible apply R.dget2
      | with_reducible apply R.forE
      | with_reducible apply R.rng1
      | with_reducible apply R.rng2
      | with_reducible apply R.rg1
      | with_reducible apply R.rg2
      | with_reducible apply R.lcE
      | with_reducible apply R.itup
      | with_reducible apply R.ilst
      )
    refine R.lcFR (lo := -900) (n := Int.toNat (901 - -900)) (fun t => decide (a * t * t + b * t + c = 0)) (fun t => t) (by decide) (fun i H' C' E' hi sm c1 c2 => ?_) (fun H11 D hD sm nD => ?_)
    · have bi : Bd 11 (-900 + (i : Int)) := Bd.of (m := 900) (by have : i < 1801 := hi; omega) (by decide)
      repeat' (first
        | with_reducible apply R.var
        | with_reducible apply R.gsE
        | ((with_reducible apply R.gsN); (focus exact rfl))
        | with_reducible apply R.lenS
        | ((with_reducible apply R.lenB); exact rfl)
        | ((with_reducible apply R.isEq); exact rfl)
        | with_reducible apply R.op
        | with_reducible apply R.i2
        | with_reducible apply R.i0
        | with_reducible apply R.con
        | with_reducible apply R.cons
        | with_reducible apply R.nil
        | with_reducible apply R.gcons
        | with_reducible apply R.gname
        | ((with_reducible apply R.ixT); (focus ((repeat' (first | with_reducible assumption | with_reducible apply hU | ((with_reducible apply SqT.of); with_reducible assumption) | ((with_reducible apply same_seqT); with_reducible assumption) | ((with_reducible apply kp_seqT); with_reducible assumption) | ((with_reducible apply Dw.same); with_reducible assumption))); done)); exact rfl)
        | ((with_reducible apply R.ixL); (focus ((repeat' (first | with_reducible assumption | ((with_reducible apply SqL.of); with_reducible assumption) | ((with_reducible apply Same.seq); with_reducible assumption) | ((with_reducible apply Kp.seqL); with_reducible assumption) | ((with_reducible apply fresh_ne); with_reducible assumption) | ((with_reducible apply Dw.same); with_reducible assumption))); done)); exact rfl)
        | with_reducible assumption
        | with_reducible apply Bd.mulW
        | with_reducible apply Bd.mul
        | with_reducible apply Bd.add
        | with_reducible apply Bd.sub
        | ((with_reducible apply Bd.l8); exact eq_true (by decide))
        | ((with_reducible apply Bd.lit); exact eq_true (by decide))
        | with_reducible apply Bd.neg
        | with_reducible apply Bd.div
        | with_reducible apply Bd.abs
        | with_reducible apply Bd.mod
        | with_reducible apply Bd.fdiv
        | ((with_reducible apply Bd.om); omega)
        | ((with_reducible apply R.isLe); first | decide | omega)
        | with_reducible apply R.un
        | with_reducible apply R.u1
        | with_reducible apply R.tup
        | with_reducible apply R.lst
        | with_reducible apply R.call
        | with_reducible apply R.callB
        | with_reducible apply R.gtup
        | with_reducible apply R.gnil
        | with_reducible apply R.seq
        | with_reducible apply R.asg
        | with_reducible apply R.ret
        | with_reducible apply R.brk
        | with_reducible apply R.cont
        | with_reducible apply R.next
        | with_reducible apply R.drop
        | with_reducible apply R.par
        | with_reducible apply R.par2
        | with_reducible apply R.ifs
        | with_reducible apply R.tif
        | with_reducible apply R.test
        | with_reducible apply R.tb'
        | with_reducible apply R.isbl
        | with_reducible apply R.cmp
        | with_reducible apply R.t2i
        | with_reducible apply R.intp
        | with_reducible apply R.and
        | with_reducible apply R.or
        | with_reducible apply R.not
        | with_reducible apply R.andV
        | with_reducible apply R.orV
        | with_reducible apply R.notV
        | with_reducible apply R.chain
        | with_reducible apply R.tupL
        | with_reducible apply R.lstL
        | with_reducible apply R.cat
        | with_reducible apply R.absI
        | with_reducible apply R.intI
        | with_reducible apply R.intB
        | with_reducible apply R.eqS
        | with_reducible apply R.eqBl
        | with_reducible apply R.neBl
        | with_reducible apply R.sl
        | with_reducible apply R.noPart
        | with_reducible apply R.part
        | with_reducible apply R.isInt
        | with_reducible apply R.slL
        | with_reducible apply R.isiT
        | with_reducible apply R.isiLst
        | with_reducible apply R.nwT
        | with_reducible apply R.nwL
        | ((with_reducible apply R.mt); intro HN tn sn nn ht)
        | ((with_reducible apply R.ml); intro HN tn sn nn ht)
        | ((with_reducible apply R.isiTupS); focus ((repeat' (first | with_reducible assumption | with_reducible apply hU | ((with_reducible apply SqT.of); with_reducible assumption) | ((with_reducible apply same_seqT); with_reducible assumption) | ((with_reducible apply kp_seqT); with_reducible assumption) | ((with_reducible apply Dw.same); with_reducible assumption))); done))
        | ((with_reducible apply R.ne4); focus ((repeat' (first | with_reducible assumption | with_reducible apply hU | ((with_reducible apply SqT.of); with_reducible assumption) | ((with_reducible apply same_seqT); with_reducible assumption) | ((with_reducible apply kp_seqT); with_reducible assumption) | ((with_reducible apply Dw.same); with_reducible assumption))); done))
        | ((with_reducible apply R.ne3); focus ((repeat' (first | with_reducible assumption | with_reducible apply hU | ((with_reducible apply SqT.of); with_reducible assumption) | ((with_reducible apply same_seqT); with_reducible assumption) | ((with_reducible apply kp_seqT); with_reducible assumption) | ((with_reducible apply Dw.same); with_reducible assumption))); done))
        | ((with_reducible apply R.ne2); focus ((repeat' (first | with_reducible assumption | with_reducible apply hU | ((with_reducible apply SqT.of); with_reducible assumption) | ((with_reducible apply same_seqT); with_reducible assumption) | ((with_reducible apply kp_seqT); with_reducible assumption) | ((with_reducible apply Dw.same); with_reducible assumption))); done))
        | ((with_reducible apply R.eq4); focus ((repeat' (first | with_reducible assumption | with_reducible apply hU | ((with_reducible apply SqT.of); with_reducible assumption) | ((with_reducible apply same_seqT); with_reducible assumption) | ((with_reducible apply kp_seqT); with_reducible assumption) | ((with_reducible apply Dw.same); with_reducible assumption))); done))
        | ((with_reducible apply R.eq3); focus ((repeat' (first | with_reducible assumption | with_reducible apply hU | ((with_reducible apply SqT.of); with_reducible assumption) | ((with_reducible apply same_seqT); with_reducible assumption) | ((with_reducible apply kp_seqT); with_reducible assumption) | ((with_reducible apply Dw.same); with_reducible assumption))); done))
        | ((with_reducible apply R.eq2); focus ((repeat' (first | with_reducible assumption | with_reducible apply hU | ((with_reducible apply SqT.of); with_reducible assumption) | ((with_reducible apply same_seqT); with_reducible assumption) | ((with_reducible apply kp_seqT); with_reducible assumption) | ((with_reducible apply Dw.same); with_reducible assumption))); done))
        | with_reducible apply uLawNext
        | with_reducible apply uLawWide
        | with_reducible apply uValueAt
        | with_reducible apply uIsSquare
        | ((with_reducible apply R.nw); intro HN tn sn ht)
        | with_reducible apply iteT
        | with_reducible apply iteF
        | with_reducible apply R.notT
        | with_reducible apply R.notF
        | ((with_reducible apply SqT.of); with_reducible assumption)
        | ((with_reducible apply SqL.of); with_reducible assumption)
        | ((with_reducible apply same_seqT); with_reducible assumption)
        | ((with_reducible apply sameB); with_reducible assumption)
        | ((with_reducible apply same_at); with_reducible assumption)
        | ((with_reducible apply kp_seqT); with_reducible assumption)
        | ((with_reducible apply Same.seq); with_reducible assumption)
        | ((with_reducible apply Kp.seqL); with_reducible assumption)
        | ((with_reducible apply fresh_ne); with_reducible assumption)
        | ((with_reducible apply Dw.same); with_reducible assumption)
        | ((with_reducible apply R.isEq); exact eq_true (by first | decide | omega))
        | ((with_reducible apply R.isLt); first | decide | omega)
        | ((with_reducible apply R.isLtI); first | decide | omega)
        | ((with_reducible apply R.isLeI); first | decide | omega)
        | ((with_reducible apply R.cdiv); exact rfl)
        | ((with_reducible apply R.cpow); exact rfl)
        | with_reducible apply R.cdivX
        | ((with_reducible apply R.isNe); omega)
        | with_reducible apply hU
        | ((with_reducible apply wayNF); first | exact rfl | exact ⟨rfl, rfl⟩ | exact ⟨rfl, rfl, rfl⟩ | exact ⟨rfl, rfl, rfl, rfl⟩)
        | with_reducible apply R.bm
        | ((with_reducible apply R.bmT); (focus ((first | with_reducible assumption | ((with_reducible apply same_at); with_reducible assumption) | ((with_reducible apply kp_at); with_reducible assumption)); done)))
        | with_reducible apply R.dput
        | with_reducible apply R.dget
        | with_reducible apply R.din
        | with_reducible apply R.dget2
        | with_reducible apply R.forE
        | with_reducible apply R.rng1
        | with_reducible apply R.rng2
        | with_reducible apply R.rg1
        | with_reducible apply R.rg2
        | with_reducible apply R.lcE
        | with_reducible apply R.itup
        | with_reducible apply R.ilst
        )
      refine ⟨rfl, ?_⟩
      repeat' (first
        | with_reducible apply R.var
        | with_reducible apply R.gsE
        | ((with_reducible apply R.gsN); (focus exact rfl))
        | with_reducible apply R.lenS
        | ((with_reducible apply R.lenB); exact rfl)
        | ((with_reducible apply R.isEq); exact rfl)
        | with_reducible apply R.op
        | with_reducible apply R.i2
        | with_reducible apply R.i0
        | with_reducible apply R.con
        | with_reducible apply R.cons
        | with_reducible apply R.nil
        | with_reducible apply R.gcons
        | with_reducible apply R.gname
        | ((with_reducible apply R.ixT); (focus ((repeat' (first | with_reducible assumption | with_reducible apply hU | ((with_reducible apply SqT.of); with_reducible assumption) | ((with_reducible apply same_seqT); with_reducible assumption) | ((with_reducible apply kp_seqT); with_reducible assumption) | ((with_reducible apply Dw.same); with_reducible assumption))); done)); exact rfl)
        | ((with_reducible apply R.ixL); (focus ((repeat' (first | with_reducible assumption | ((with_reducible apply SqL.of); with_reducible assumption) | ((with_reducible apply Same.seq); with_reducible assumption) | ((with_reducible apply Kp.seqL); with_reducible assumption) | ((with_reducible apply fresh_ne); with_reducible assumption) | ((with_reducible apply Dw.same); with_reducible assumption))); done)); exact rfl)
        | with_reducible assumption
        | with_reducible apply Bd.mulW
        | with_reducible apply Bd.mul
        | with_reducible apply Bd.add
        | with_reducible apply Bd.sub
        | ((with_reducible apply Bd.l8); exact eq_true (by decide))
        | ((with_reducible apply Bd.lit); exact eq_true (by decide))
        | with_reducible apply Bd.neg
        | with_reducible apply Bd.div
        | with_reducible apply Bd.abs
        | with_reducible apply Bd.mod
        | with_reducible apply Bd.fdiv
        | ((with_reducible apply Bd.om); omega)
        | ((with_reducible apply R.isLe); first | decide | omega)
        | with_reducible apply R.un
        | with_reducible apply R.u1
        | with_reducible apply R.tup
        | with_reducible apply R.lst
        | with_reducible apply R.call
        | with_reducible apply R.callB
        | with_reducible apply R.gtup
        | with_reducible apply R.gnil
        | with_reducible apply R.seq
        | with_reducible apply R.asg
        | with_reducible apply R.ret
        | with_reducible apply R.brk
        | with_reducible apply R.cont
        | with_reducible apply R.next
        | with_reducible apply R.drop
        | with_reducible apply R.par
        | with_reducible apply R.par2
        | with_reducible apply R.ifs
        | with_reducible apply R.tif
        | with_reducible apply R.test
        | with_reducible apply R.tb'
        | with_reducible apply R.isbl
        | with_reducible apply R.cmp
        | with_reducible apply R.t2i
        | with_reducible apply R.intp
        | with_reducible apply R.and
        | with_reducible apply R.or
        | with_reducible apply R.not
        | with_reducible apply R.andV
        | with_reducible apply R.orV
        | with_reducible apply R.notV
        | with_reducible apply R.chain
        | with_reducible apply R.tupL
        | with_reducible apply R.lstL
        | with_reducible apply R.cat
        | with_reducible apply R.absI
        | with_reducible apply R.intI
        | with_reducible apply R.intB
        | with_reducible apply R.eqS
        | with_reducible apply R.eqBl
        | with_reducible apply R.neBl
        | with_reducible apply R.sl
        | with_reducible apply R.noPart
        | with_reducible apply R.part
        | with_reducible apply R.isInt
        | with_reducible apply R.slL
        | with_reducible apply R.isiT
        | with_reducible apply R.isiLst
        | with_reducible apply R.nwT
        | with_reducible apply R.nwL
        | ((with_reducible apply R.mt); intro HN tn sn nn ht)
        | ((with_reducible apply R.ml); intro HN tn sn nn ht)
        | ((with_reducible apply R.isiTupS); focus ((repeat' (first | with_reducible assumption | with_reducible apply hU | ((with_reducible apply SqT.of); with_reducible assumption) | ((with_reducible apply same_seqT); with_reducible assumption) | ((with_reducible apply kp_seqT); with_reducible assumption) | ((with_reducible apply Dw.same); with_reducible assumption))); done))
        | ((with_reducible apply R.ne4); focus ((repeat' (first | with_reducible assumption | with_reducible apply hU | ((with_reducible apply SqT.of); with_reducible assumption) | ((with_reducible apply same_seqT); with_reducible assumption) | ((with_reducible apply kp_seqT); with_reducible assumption) | ((with_reducible apply Dw.same); with_reducible assumption))); done))
        | ((with_reducible apply R.ne3); focus ((repeat' (first | with_reducible assumption | with_reducible apply hU | ((with_reducible apply SqT.of); with_reducible assumption) | ((with_reducible apply same_seqT); with_reducible assumption) | ((with_reducible apply kp_seqT); with_reducible assumption) | ((with_reducible apply Dw.same); with_reducible assumption))); done))
        | ((with_reducible apply R.ne2); focus ((repeat' (first | with_reducible assumption | with_reducible apply hU | ((with_reducible apply SqT.of); with_reducible assumption) | ((with_reducible apply same_seqT); with_reducible assumption) | ((with_reducible apply kp_seqT); with_reducible assumption) | ((with_reducible apply Dw.same); with_reducible assumption))); done))
        | ((with_reducible apply R.eq4); focus ((repeat' (first | with_reducible assumption | with_reducible apply hU | ((with_reducible apply SqT.of); with_reducible assumption) | ((with_reducible apply same_seqT); with_reducible assumption) | ((with_reducible apply kp_seqT); with_reducible assumption) | ((with_reducible apply Dw.same); with_reducible assumption))); done))
        | ((with_reducible apply R.eq3); focus ((repeat' (first | with_reducible assumption | with_reducible apply hU | ((with_reducible apply SqT.of); with_reducible assumption) | ((with_reducible apply same_seqT); with_reducible assumption) | ((with_reducible apply kp_seqT); with_reducible assumption) | ((with_reducible apply Dw.same); with_reducible assumption))); done))
        | ((with_reducible apply R.eq2); focus ((repeat' (first | with_reducible assumption | with_reducible apply hU | ((with_reducible apply SqT.of); with_reducible assumption) | ((with_reducible apply same_seqT); with_reducible assumption) | ((with_reducible apply kp_seqT); with_reducible assumption) | ((with_reducible apply Dw.same); with_reducible assumption))); done))
        | with_reducible apply uLawNext
        | with_reducible apply uLawWide
        | with_reducible apply uValueAt
        | with_reducible apply uIsSquare
        | ((with_reducible apply R.nw); intro HN tn sn ht)
        | with_reducible apply iteT
        | with_reducible apply iteF
        | with_reducible apply R.notT
        | with_reducible apply R.notF
        | ((with_reducible apply SqT.of); with_reducible assumption)
        | ((with_reducible apply SqL.of); with_reducible assumption)
        | ((with_reducible apply same_seqT); with_reducible assumption)
        | ((with_reducible apply sameB); with_reducible assumption)
        | ((with_reducible apply same_at); with_reducible assumption)
        | ((with_reducible apply kp_seqT); with_reducible assumption)
        | ((with_reducible apply Same.seq); with_reducible assumption)
        | ((with_reducible apply Kp.seqL); with_reducible assumption)
        | ((with_reducible apply fresh_ne); with_reducible assumption)
        | ((with_reducible apply Dw.same); with_reducible assumption)
        | ((with_reducible apply R.isEq); exact eq_true (by first | decide | omega))
        | ((with_reducible apply R.isLt); first | decide | omega)
        | ((with_reducible apply R.isLtI); first | decide | omega)
        | ((with_reducible apply R.isLeI); first | decide | omega)
        | ((with_reducible apply R.cdiv); exact rfl)
        | ((with_reducible apply R.cpow); exact rfl)
        | with_reducible apply R.cdivX
        | ((with_reducible apply R.isNe); omega)
        | with_reducible apply hU
        | ((with_reducible apply wayNF); first | exact rfl | exact ⟨rfl, rfl⟩ | exact ⟨rfl, rfl, rfl⟩ | exact ⟨rfl, rfl, rfl, rfl⟩)
        | with_reducible apply R.bm
        | ((with_reducible apply R.bmT); (focus ((first | with_reducible assumption | ((with_reducible apply same_at); with_reducible assumption) | ((with_reducible apply kp_at); with_reducible assumption)); done)))
        | with_reducible apply R.dput
        | with_reducible apply R.dget
        | with_reducible apply R.din
        | with_reducible apply R.dget2
        | with_reducible apply R.forE
        | with_reducible apply R.rng1
        | with_reducible apply R.rng2
        | with_reducible apply R.rg1
        | with_reducible apply R.rg2
        | with_reducible apply R.lcE
        | with_reducible apply R.itup
        | with_reducible apply R.ilst
        )
      refine way2 (fun h => ?_) (fun h => ?_)
      · skip
        repeat' (first
          | with_reducible apply R.var
          | with_reducible apply R.gsE
          | ((with_reducible apply R.gsN); (focus exact rfl))
          | with_reducible apply R.lenS
          | ((with_reducible apply R.lenB); exact rfl)
          | ((with_reducible apply R.isEq); exact rfl)
          | with_reducible apply R.op
          | with_reducible apply R.i2
          | with_reducible apply R.i0
          | with_reducible apply R.con
          | with_reducible apply R.cons
          | with_reducible apply R.nil
          | with_reducible apply R.gcons
          | with_reducible apply R.gname
          | ((with_reducible apply R.ixT); (focus ((repeat' (first | with_reducible assumption | with_reducible apply hU | ((with_reducible apply SqT.of); with_reducible assumption) | ((with_reducible apply same_seqT); with_reducible assumption) | ((with_reducible apply kp_seqT); with_reducible assumption) | ((with_reducible apply Dw.same); with_reducible assumption))); done)); exact rfl)
          | ((with_reducible apply R.ixL); (focus ((repeat' (first | with_reducible assumption | ((with_reducible apply SqL.of); with_reducible assumption) | ((with_reducible apply Same.seq); with_reducible assumption) | ((with_reducible apply Kp.seqL); with_reducible assumption) | ((with_reducible apply fresh_ne); with_reducible assumption) | ((with_reducible apply Dw.same); with_reducible assumption))); done)); exact rfl)
          | with_reducible assumption
          | with_reducible apply Bd.mulW
          | with_reducible apply Bd.mul
          | with_reducible apply Bd.add
          | with_reducible apply Bd.sub
          | ((with_reducible apply Bd.l8); exact eq_true (by decide))
          | ((with_reducible apply Bd.lit); exact eq_true (by decide))
          | with_reducible apply Bd.neg
          | with_reducible apply Bd.div
          | with_reducible apply Bd.abs
          | with_reducible apply Bd.mod
          | with_reducible apply Bd.fdiv
          | ((with_reducible apply Bd.om); omega)
          | ((with_reducible apply R.isLe); first | decide | omega)
          | with_reducible apply R.un
          | with_reducible apply R.u1
          | with_reducible apply R.tup
          | with_reducible apply R.lst
          | with_reducible apply R.call
          | with_reducible apply R.callB
          | with_reducible apply R.gtup
          | with_reducible apply R.gnil
          | with_reducible apply R.seq
          | with_reducible apply R.asg
          | with_reducible apply R.ret
          | with_reducible apply R.brk
          | with_reducible apply R.cont
          | with_reducible apply R.next
          | with_reducible apply R.drop
          | with_reducible apply R.par
          | with_reducible apply R.par2
          | with_reducible apply R.ifs
          | with_reducible apply R.tif
          | with_reducible apply R.test
          | with_reducible apply R.tb'
          | with_reducible apply R.isbl
          | with_reducible apply R.cmp
          | with_reducible apply R.t2i
          | with_reducible apply R.intp
          | with_reducible apply R.and
          | with_reducible apply R.or
          | with_reducible apply R.not
          | with_reducible apply R.andV
          | with_reducible apply R.orV
          | with_reducible apply R.notV
          | with_reducible apply R.chain
          | with_reducible apply R.tupL
          | with_reducible apply R.lstL
          | with_reducible apply R.cat
          | with_reducible apply R.absI
          | with_reducible apply R.intI
          | with_reducible apply R.intB
          | with_reducible apply R.eqS
          | with_reducible apply R.eqBl
          | with_reducible apply R.neBl
          | with_reducible apply R.sl
          | with_reducible apply R.noPart
          | with_reducible apply R.part
          | with_reducible apply R.isInt
          | with_reducible apply R.slL
          | with_reducible apply R.isiT
          | with_reducible apply R.isiLst
          | with_reducible apply R.nwT
          | with_reducible apply R.nwL
          | ((with_reducible apply R.mt); intro HN tn sn nn ht)
          | ((with_reducible apply R.ml); intro HN tn sn nn ht)
          | ((with_reducible apply R.isiTupS); focus ((repeat' (first | with_reducible assumption | with_reducible apply hU | ((with_reducible apply SqT.of); with_reducible assumption) | ((with_reducible apply same_seqT); with_reducible assumption) | ((with_reducible apply kp_seqT); with_reducible assumption) | ((with_reducible apply Dw.same); with_reducible assumption))); done))
          | ((with_reducible apply R.ne4); focus ((repeat' (first | with_reducible assumption | with_reducible apply hU | ((with_reducible apply SqT.of); with_reducible assumption) | ((with_reducible apply same_seqT); with_reducible assumption) | ((with_reducible apply kp_seqT); with_reducible assumption) | ((with_reducible apply Dw.same); with_reducible assumption))); done))
          | ((with_reducible apply R.ne3); focus ((repeat' (first | with_reducible assumption | with_reducible apply hU | ((with_reducible apply SqT.of); with_reducible assumption) | ((with_reducible apply same_seqT); with_reducible assumption) | ((with_reducible apply kp_seqT); with_reducible assumption) | ((with_reducible apply Dw.same); with_reducible assumption))); done))
          | ((with_reducible apply R.ne2); focus ((repeat' (first | with_reducible assumption | with_reducible apply hU | ((with_reducible apply SqT.of); with_reducible assumption) | ((with_reducible apply same_seqT); with_reducible assumption) | ((with_reducible apply kp_seqT); with_reducible assumption) | ((with_reducible apply Dw.same); with_reducible assumption))); done))
          | ((with_reducible apply R.eq4); focus ((repeat' (first | with_reducible assumption | with_reducible apply hU | ((with_reducible apply SqT.of); with_reducible assumption) | ((with_reducible apply same_seqT); with_reducible assumption) | ((with_reducible apply kp_seqT); with_reducible assumption) | ((with_reducible apply Dw.same); with_reducible assumption))); done))
          | ((with_reducible apply R.eq3); focus ((repeat' (first | with_reducible assumption | with_reducible apply hU | ((with_reducible apply SqT.of); with_reducible assumption) | ((with_reducible apply same_seqT); with_reducible assumption) | ((with_reducible apply kp_seqT); with_reducible assumption) | ((with_reducible apply Dw.same); with_reducible assumption))); done))
          | ((with_reducible apply R.eq2); focus ((repeat' (first | with_reducible assumption | with_reducible apply hU | ((with_reducible apply SqT.of); with_reducible assumption) | ((with_reducible apply same_seqT); with_reducible assumption) | ((with_reducible apply kp_seqT); with_reducible assumption) | ((with_reducible apply Dw.same); with_reducible assumption))); done))
          | with_reducible apply uLawNext
          | with_reducible apply uLawWide
          | with_reducible apply uValueAt
          | with_reducible apply uIsSquare
          | ((with_reducible apply R.nw); intro HN tn sn ht)
          | with_reducible apply iteT
          | with_reducible apply iteF
          | with_reducible apply R.notT
          | with_reducible apply R.notF
          | ((with_reducible apply SqT.of); with_reducible assumption)
          | ((with_reducible apply SqL.of); with_reducible assumption)
          | ((with_reducible apply same_seqT); with_reducible assumption)
          | ((with_reducible apply sameB); with_reducible assumption)
          | ((with_reducible apply same_at); with_reducible assumption)
          | ((with_reducible apply kp_seqT); with_reducible assumption)
          | ((with_reducible apply Same.seq); with_reducible assumption)
          | ((with_reducible apply Kp.seqL); with_reducible assumption)
          | ((with_reducible apply fresh_ne); with_reducible assumption)
          | ((with_reducible apply Dw.same); with_reducible assumption)
          | ((with_reducible apply R.isEq); exact eq_true (by first | decide | omega))
          | ((with_reducible apply R.isLt); first | decide | omega)
          | ((with_reducible apply R.isLtI); first | decide | omega)
          | ((with_reducible apply R.isLeI); first | decide | omega)
          | ((with_reducible apply R.cdiv); exact rfl)
          | ((with_reducible apply R.cpow); exact rfl)
          | with_reducible apply R.cdivX
          | ((with_reducible apply R.isNe); omega)
          | with_reducible apply hU
          | ((with_reducible apply wayNF); first | exact rfl | exact ⟨rfl, rfl⟩ | exact ⟨rfl, rfl, rfl⟩ | exact ⟨rfl, rfl, rfl, rfl⟩)
          | with_reducible apply R.bm
          | ((with_reducible apply R.bmT); (focus ((first | with_reducible assumption | ((with_reducible apply same_at); with_reducible assumption) | ((with_reducible apply kp_at); with_reducible assumption)); done)))
          | with_reducible apply R.dput
          | with_reducible apply R.dget
          | with_reducible apply R.din
          | with_reducible apply R.dget2
          | with_reducible apply R.forE
          | with_reducible apply R.rng1
          | with_reducible apply R.rng2
          | with_reducible apply R.rg1
          | with_reducible apply R.rg2
          | with_reducible apply R.lcE
          | with_reducible apply R.itup
          | with_reducible apply R.ilst
          )
        exact c1 (decide_eq_true h)
      · exact c2 (decide_eq_false h)
    have hdue : ∀ ts, RootsQ a b c ts → ts = ((rgI (-900) (Int.toNat (901 - -900))).filter fun t => decide (a * t * t + b * t + c = 0)).map (fun t => t) := by
      intro ts h
      rw [List.map_id']
      refine lt_ext h.1 ((rgI_lt _ _).filter _) fun x => ?_
      rw [h.2, List.mem_filter, mem_rgI, decide_eq_true_iff]
      constructor
      · intro e
        have := root_in hab nb nc e
        exact ⟨⟨this.1, by show x < -900 + 1801; omega⟩, e⟩
      · exact fun h => h.2
    have d11 := d10.same sm
    generalize ((rgI (-900) (Int.toNat (901 - -900))).filter fun t => decide (a * t * t + b * t + c = 0)).map (fun t => t) = due at *
    repeat' (first
      | with_reducible apply R.var
      | with_reducible apply R.gsE
      | ((with_reducible apply R.gsN); (focus exact rfl))
      | with_reducible apply R.lenS
      | ((with_reducible apply R.lenB); exact rfl)
      | ((with_reducible apply R.isEq); exact rfl)
      | with_reducible apply R.op
      | with_reducible apply R.i2
      | with_reducible apply R.i0
      | with_reducible apply R.con
      | with_reducible apply R.cons
      | with_reducible apply R.nil
      | with_reducible apply R.gcons
      | with_reducible apply R.gname
      | ((with_reducible apply R.ixT); (focus ((repeat' (first | with_reducible assumption | with_reducible apply hU | ((with_reducible apply SqT.of); with_reducible assumption) | ((with_reducible apply same_seqT); with_reducible assumption) | ((with_reducible apply kp_seqT); with_reducible assumption) | ((with_reducible apply Dw.same); with_reducible assumption))); done)); exact rfl)
      | ((with_reducible apply R.ixL); (focus ((repeat' (first | with_reducible assumption | ((with_reducible apply SqL.of); with_reducible assumption) | ((with_reducible apply Same.seq); with_reducible assumption) | ((with_reducible apply Kp.seqL); with_reducible assumption) | ((with_reducible apply fresh_ne); with_reducible assumption) | ((with_reducible apply Dw.same); with_reducible assumption))); done)); exact rfl)
      | with_reducible assumption
      | with_reducible apply Bd.mulW
      | with_reducible apply Bd.mul
      | with_reducible apply Bd.add
      | with_reducible apply Bd.sub
      | ((with_reducible apply Bd.l8); exact eq_true (by decide))
      | ((with_reducible apply Bd.lit); exact eq_true (by decide))
      | with_reducible apply Bd.neg
      | with_reducible apply Bd.div
      | with_reducible apply Bd.abs
      | with_reducible apply Bd.mod
      | with_reducible apply Bd.fdiv
      | ((with_reducible apply Bd.om); omega)
      | ((with_reducible apply R.isLe); first | decide | omega)
      | with_reducible apply R.un
      | with_reducible apply R.u1
      | with_reducible apply R.tup
      | with_reducible apply R.lst
      | with_reducible apply R.call
      | with_reducible apply R.callB
      | with_reducible apply R.gtup
      | with_reducible apply R.gnil
      | with_reducible apply R.seq
      | with_reducible apply R.asg
      | with_reducible apply R.ret
      | with_reducible apply R.brk
      | with_reducible apply R.cont
      | with_reducible apply R.next
      | with_reducible apply R.drop
      | with_reducible apply R.par
      | with_reducible apply R.par2
      | with_reducible apply R.ifs
      | with_reducible apply R.tif
      | with_reducible apply R.test
      | with_reducible apply R.tb'
      | with_reducible apply R.isbl
      | with_reducible apply R.cmp
      | with_reducible apply R.t2i
      | with_reducible apply R.intp
      | with_reducible apply R.and
      | with_reducible apply R.or
      | with_reducible apply R.not
      | with_reducible apply R.andV
      | with_reducible apply R.orV
      | with_reducible apply R.notV
      | with_reducible apply R.chain
      | with_reducible apply R.tupL
      | with_reducible apply R.lstL
      | with_reducible apply R.cat
      | with_reducible apply R.absI
      | with_reducible apply R.intI
      | with_reducible apply R.intB
      | with_reducible apply R.eqS
      | with_reducible apply R.eqBl
      | with_reducible apply R.neBl
      | with_reducible apply R.sl
      | with_reducible apply R.noPart
      | with_reducible apply R.part
      | with_reducible apply R.isInt
      | with_reducible apply R.slL
      | with_reducible apply R.isiT
      | with_reducible apply R.isiLst
      | with_reducible apply R.nwT
      | with_reducible apply R.nwL
      | ((with_reducible apply R.mt); intro HN tn sn nn ht)
      | ((with_reducible apply R.ml); intro HN tn sn nn ht)
      | ((with_reducible apply R.isiTupS); focus ((repeat' (first | with_reducible assumption | with_reducible apply hU | ((with_reducible apply SqT.of); with_reducible assumption) | ((with_reducible apply same_seqT); with_reducible assumption) | ((with_reducible apply kp_seqT); with_reducible assumption) | ((with_reducible apply Dw.same); with_reducible assumption))); done))
      | ((with_reducible apply R.ne4); focus ((repeat' (first | with_reducible assumption | with_reducible apply hU | ((with_reducible apply SqT.of); with_reducible assumption) | ((with_reducible apply same_seqT); with_reducible assumption) | ((with_reducible apply kp_seqT); with_reducible assumption) | ((with_reducible apply Dw.same); with_reducible assumption))); done))
      | ((with_reducible apply R.ne3); focus ((repeat' (first | with_reducible assumption | with_reducible apply hU | ((with_reducible apply SqT.of); with_reducible assumption) | ((with_reducible apply same_seqT); with_reducible assumption) | ((with_reducible apply kp_seqT); with_reducible assumption) | ((with_reducible apply Dw.same); with_reducible assumption))); done))
      | ((with_reducible apply R.ne2); focus ((repeat' (first | with_reducible assumption | with_reducible apply hU | ((with_reducible apply SqT.of); with_reducible assumption) | ((with_reducible apply same_seqT); with_reducible assumption) | ((with_reducible apply kp_seqT); with_reducible assumption) | ((with_reducible apply Dw.same); with_reducible assumption))); done))
      | ((with_reducible apply R.eq4); focus ((repeat' (first | with_reducible assumption | with_reducible apply hU | ((with_reducible apply SqT.of); with_reducible assumption) | ((with_reducible apply same_seqT); with_reducible assumption) | ((with_reducible apply kp_seqT); with_reducible assumption) | ((with_reducible apply Dw.same); with_reducible assumption))); done))
      | ((with_reducible apply R.eq3); focus ((repeat' (first | with_reducible assumption | with_reducible apply hU | ((with_reducible apply SqT.of); with_reducible assumption) | ((with_reducible apply same_seqT); with_reducible assumption) | ((with_reducible apply kp_seqT); with_reducible assumption) | ((with_reducible apply Dw.same); with_reducible assumption))); done))
      | ((with_reducible apply R.eq2); focus ((repeat' (first | with_reducible assumption | with_reducible apply hU | ((with_reducible apply SqT.of); with_reducible assumption) | ((with_reducible apply same_seqT); with_reducible assumption) | ((with_reducible apply kp_seqT); with_reducible assumption) | ((with_reducible apply Dw.same); with_reducible assumption))); done))
      | with_reducible apply uLawNext
      | with_reducible apply uLawWide
      | with_reducible apply uValueAt
      | with_reducible apply uIsSquare
      | ((with_reducible apply R.nw); intro HN tn sn ht)
      | with_reducible apply iteT
      | with_reducible apply iteF
      | with_reducible apply R.notT
      | with_reducible apply R.notF
      | ((with_reducible apply SqT.of); with_reducible assumption)
      | ((with_reducible apply SqL.of); with_reducible assumption)
      | ((with_reducible apply same_seqT); with_reducible assumption)
      | ((with_reducible apply sameB); with_reducible assumption)
      | ((with_reducible apply same_at); with_reducible assumption)
      | ((with_reducible apply kp_seqT); with_reducible assumption)
      | ((with_reducible apply Same.seq); with_reducible assumption)
      | ((with_reducible apply Kp.seqL); with_reducible assumption)
      | ((with_reducible apply fresh_ne); with_reducible assumption)
      | ((with_reducible apply Dw.same); with_reducible assumption)
      | ((with_reducible apply R.isEq); exact eq_true (by first | decide | omega))
      | ((with_reducible apply R.isLt); first | decide | omega)
      | ((with_reducible apply R.isLtI); first | decide | omega)
      | ((with_reducible apply R.isLeI); first | decide | omega)
      | ((with_reducible apply R.cdiv); exact rfl)
      | ((with_reducible apply R.cpow); exact rfl)
      | with_reducible apply R.cdivX
      | ((with_reducible apply R.isNe); omega)
      | with_reducible apply hU
      | ((with_reducible apply wayNF); first | exact rfl | exact ⟨rfl, rfl⟩ | exact ⟨rfl, rfl, rfl⟩ | exact ⟨rfl, rfl, rfl, rfl⟩)
      | with_reducible apply R.bm
      | ((with_reducible apply R.bmT); (focus ((first | with_reducible assumption | ((with_reducible apply same_at); with_reducible assumption) | ((with_reducible apply kp_at); with_reducible assumption)); done)))
      | with_reducible apply R.dput
      | with_reducible apply R.dget
      | with_reducible apply R.din
      | with_reducible apply R.dget2
      | with_reducible apply R.forE
      | with_reducible apply R.rng1
      | with_reducible apply R.rng2
      | with_reducible apply R.rg1
      | with_reducible apply R.rg2
      | with_reducible apply R.lcE
      | with_reducible apply R.itup
      | with_reducible apply R.ilst
      )
    intro r10 H12 r10a r10b d12 k12
    have bn : Bd 10 (r10 - 450) := Bd.of (m := 450) (by omega) (by decide)
    have hD12 : H12 D = some (.lst (due.map V.int)) := k12 _ _ (d10.ne nD).1 hD
    repeat' (first
      | with_reducible apply R.var
      | with_reducible apply R.gsE
      | ((with_reducible apply R.gsN); (focus exact rfl))
      | with_reducible apply R.lenS
      | ((with_reducible apply R.lenB); exact rfl)
      | ((with_reducible apply R.isEq); exact rfl)
      | with_reducible apply R.op
      | with_reducible apply R.i2
      | with_reducible apply R.i0
      | with_reducible apply R.con
      | with_reducible apply R.cons
      | with_reducible apply R.nil
      | with_reducible apply R.gcons
      | with_reducible apply R.gname
      | ((with_reducible apply R.ixT); (focus ((repeat' (first | with_reducible assumption | with_reducible apply hU | ((with_reducible apply SqT.of); with_reducible assumption) | ((with_reducible apply same_seqT); with_reducible assumption) | ((with_reducible apply kp_seqT); with_reducible assumption) | ((with_reducible apply Dw.same); with_reducible assumption))); done)); exact rfl)
      | ((with_reducible apply R.ixL); (focus ((repeat' (first | with_reducible assumption | ((with_reducible apply SqL.of); with_reducible assumption) | ((with_reducible apply Same.seq); with_reducible assumption) | ((with_reducible apply Kp.seqL); with_reducible assumption) | ((with_reducible apply fresh_ne); with_reducible assumption) | ((with_reducible apply Dw.same); with_reducible assumption))); done)); exact rfl)
      | with_reducible assumption
      | with_reducible apply Bd.mulW
      | with_reducible apply Bd.mul
      | with_reducible apply Bd.add
      | with_reducible apply Bd.sub
      | ((with_reducible apply Bd.l8); exact eq_true (by decide))
      | ((with_reducible apply Bd.lit); exact eq_true (by decide))
      | with_reducible apply Bd.neg
      | with_reducible apply Bd.div
      | with_reducible apply Bd.abs
      | with_reducible apply Bd.mod
      | with_reducible apply Bd.fdiv
      | ((with_reducible apply Bd.om); omega)
      | ((with_reducible apply R.isLe); first | decide | omega)
      | with_reducible apply R.un
      | with_reducible apply R.u1
      | with_reducible apply R.tup
      | with_reducible apply R.lst
      | with_reducible apply R.call
      | with_reducible apply R.callB
      | with_reducible apply R.gtup
      | with_reducible apply R.gnil
      | with_reducible apply R.seq
      | with_reducible apply R.asg
      | with_reducible apply R.ret
      | with_reducible apply R.brk
      | with_reducible apply R.cont
      | with_reducible apply R.next
      | with_reducible apply R.drop
      | with_reducible apply R.par
      | with_reducible apply R.par2
      | with_reducible apply R.ifs
      | with_reducible apply R.tif
      | with_reducible apply R.test
      | with_reducible apply R.tb'
      | with_reducible apply R.isbl
      | with_reducible apply R.cmp
      | with_reducible apply R.t2i
      | with_reducible apply R.intp
      | with_reducible apply R.and
      | with_reducible apply R.or
      | with_reducible apply R.not
      | with_reducible apply R.andV
      | with_reducible apply R.orV
      | with_reducible apply R.notV
      | with_reducible apply R.chain
      | with_reducible apply R.tupL
      | with_reducible apply R.lstL
      | with_reducible apply R.cat
      | with_reducible apply R.absI
      | with_reducible apply R.intI
      | with_reducible apply R.intB
      | with_reducible apply R.eqS
      | with_reducible apply R.eqBl
      | with_reducible apply R.neBl
      | with_reducible apply R.sl
      | with_reducible apply R.noPart
      | with_reducible apply R.part
      | with_reducible apply R.isInt
      | with_reducible apply R.slL
      | with_reducible apply R.isiT
      | with_reducible apply R.isiLst
      | with_reducible apply R.nwT
      | with_reducible apply R.nwL
      | ((with_reducible apply R.mt); intro HN tn sn nn ht)
      | ((with_reducible apply R.ml); intro HN tn sn nn ht)
      | ((with_reducible apply R.isiTupS); focus ((repeat' (first | with_reducible assumption | with_reducible apply hU | ((with_reducible apply SqT.of); with_reducible assumption) | ((with_reducible apply same_seqT); with_reducible assumption) | ((with_reducible apply kp_seqT); with_reducible assumption) | ((with_reducible apply Dw.same); with_reducible assumption))); done))
      | ((with_reducible apply R.ne4); focus ((repeat' (first | with_reducible assumption | with_reducible apply hU | ((with_reducible apply SqT.of); with_reducible assumption) | ((with_reducible apply same_seqT); with_reducible assumption) | ((with_reducible apply kp_seqT); with_reducible assumption) | ((with_reducible apply Dw.same); with_reducible assumption))); done))
      | ((with_reducible apply R.ne3); focus ((repeat' (first | with_reducible assumption | with_reducible apply hU | ((with_reducible apply SqT.of); with_reducible assumption) | ((with_reducible apply same_seqT); with_reducible assumption) | ((with_reducible apply kp_seqT); with_reducible assumption) | ((with_reducible apply Dw.same); with_reducible assumption))); done))
      | ((with_reducible apply R.ne2); focus ((repeat' (first | with_reducible assumption | with_reducible apply hU | ((with_reducible apply SqT.of); with_reducible assumption) | ((with_reducible apply same_seqT); with_reducible assumption) | ((with_reducible apply kp_seqT); with_reducible assumption) | ((with_reducible apply Dw.same); with_reducible assumption))); done))
      | ((with_reducible apply R.eq4); focus ((repeat' (first | with_reducible assumption | with_reducible apply hU | ((with_reducible apply SqT.of); with_reducible assumption) | ((with_reducible apply same_seqT); with_reducible assumption) | ((with_reducible apply kp_seqT); with_reducible assumption) | ((with_reducible apply Dw.same); with_reducible assumption))); done))
      | ((with_reducible apply R.eq3); focus ((repeat' (first | with_reducible assumption | with_reducible apply hU | ((with_reducible apply SqT.of); with_reducible assumption) | ((with_reducible apply same_seqT); with_reducible assumption) | ((with_reducible apply kp_seqT); with_reducible assumption) | ((with_reducible apply Dw.same); with_reducible assumption))); done))
      | ((with_reducible apply R.eq2); focus ((repeat' (first | with_reducible assumption | with_reducible apply hU | ((with_reducible apply SqT.of); with_reducible assumption) | ((with_reducible apply same_seqT); with_reducible assumption) | ((with_reducible apply kp_seqT); with_reducible assumption) | ((with_reducible apply Dw.same); with_reducible assumption))); done))
      | with_reducible apply uLawNext
      | with_reducible apply uLawWide
      | with_reducible apply uValueAt
      | with_reducible apply uIsSquare
      | ((with_reducible apply R.nw); intro HN tn sn ht)
      | with_reducible apply iteT
      | with_reducible apply iteF
      | with_reducible apply R.notT
      | with_reducible apply R.notF
      | ((with_reducible apply SqT.of); with_reducible assumption)
      | ((with_reducible apply SqL.of); with_reducible assumption)
      | ((with_reducible apply same_seqT); with_reducible assumption)
      | ((with_reducible apply sameB); with_reducible assumption)
      | ((with_reducible apply same_at); with_reducible assumption)
      | ((with_reducible apply kp_seqT); with_reducible assumption)
      | ((with_reducible apply Same.seq); with_reducible assumption)
      | ((with_reducible apply Kp.seqL); with_reducible assumption)
      | ((with_reducible apply fresh_ne); with_reducible assumption)
      | ((with_reducible apply Dw.same); with_reducible assumption)
      | ((with_reducible apply R.isEq); exact eq_true (by first | decide | omega))
      | ((with_reducible apply R.isLt); first | decide | omega)
      | ((with_reducible apply R.isLtI); first | decide | omega)
      | ((with_reducible apply R.isLeI); first | decide | omega)
      | ((with_reducible apply R.cdiv); exact rfl)
      | ((with_reducible apply R.cpow); exact rfl)
      | with_reducible apply R.cdivX
      | ((with_reducible apply R.isNe); omega)
      | with_reducible apply hU
      | ((with_reducible apply wayNF); first | exact rfl | exact ⟨rfl, rfl⟩ | exact ⟨rfl, rfl, rfl⟩ | exact ⟨rfl, rfl, rfl, rfl⟩)
      | with_reducible apply R.bm
      | ((with_reducible apply R.bmT); (focus ((first | with_reducible assumption | ((with_reducible apply same_at); with_reducible assumption) | ((with_reducible apply kp_at); with_reducible assumption)); done)))
      | with_reducible apply R.dput
      | with_reducible apply R.dget
      | with_reducible apply R.din
      | with_reducible apply R.dget2
      | with_reducible apply R.forE
      | with_reducible apply R.rng1
      | with_reducible apply R.rng2
      | with_reducible apply R.rg1
      | with_reducible apply R.rg2
      | with_reducible apply R.lcE
      | with_reducible apply R.itup
      | with_reducible apply R.ilst
      )
    refine uQuadraticRoots rfl hab2 (ba.mono (by decide)) (bb.mono (by decide)) (bc.mono (by decide)) ?_
    intro H13 La ts1 s13 n13 h13 _ l13
    repeat' (first
      | with_reducible apply R.var
      | with_reducible apply R.gsE
      | ((with_reducible apply R.gsN); (focus exact rfl))
      | with_reducible apply R.lenS
      | ((with_reducible apply R.lenB); exact rfl)
      | ((with_reducible apply R.isEq); exact rfl)
      | with_reducible apply R.op
      | with_reducible apply R.i2
      | with_reducible apply R.i0
      | with_reducible apply R.con
      | with_reducible apply R.cons
      | with_reducible apply R.nil
      | with_reducible apply R.gcons
      | with_reducible apply R.gname
      | ((with_reducible apply R.ixT); (focus ((repeat' (first | with_reducible assumption | with_reducible apply hU | ((with_reducible apply SqT.of); with_reducible assumption) | ((with_reducible apply same_seqT); with_reducible assumption) | ((with_reducible apply kp_seqT); with_reducible assumption) | ((with_reducible apply Dw.same); with_reducible assumption))); done)); exact rfl)
      | ((with_reducible apply R.ixL); (focus ((repeat' (first | with_reducible assumption | ((with_reducible apply SqL.of); with_reducible assumption) | ((with_reducible apply Same.seq); with_reducible assumption) | ((with_reducible apply Kp.seqL); with_reducible assumption) | ((with_reducible apply fresh_ne); with_reducible assumption) | ((with_reducible apply Dw.same); with_reducible assumption))); done)); exact rfl)
      | with_reducible assumption
      | with_reducible apply Bd.mulW
      | with_reducible apply Bd.mul
      | with_reducible apply Bd.add
      | with_reducible apply Bd.sub
      | ((with_reducible apply Bd.l8); exact eq_true (by decide))
      | ((with_reducible apply Bd.lit); exact eq_true (by decide))
      | with_reducible apply Bd.neg
      | with_reducible apply Bd.div
      | with_reducible apply Bd.abs
      | with_reducible apply Bd.mod
      | with_reducible apply Bd.fdiv
      | ((with_reducible apply Bd.om); omega)
      | ((with_reducible apply R.isLe); first | decide | omega)
      | with_reducible apply R.un
      | with_reducible apply R.u1
      | with_reducible apply R.tup
      | with_reducible apply R.lst
      | with_reducible apply R.call
      | with_reducible apply R.callB
      | with_reducible apply R.gtup
      | with_reducible apply R.gnil
      | with_reducible apply R.seq
      | with_reducible apply R.asg
      | with_reducible apply R.ret
      | with_reducible apply R.brk
      | with_reducible apply R.cont
      | with_reducible apply R.next
      | with_reducible apply R.drop
      | with_reducible apply R.par
      | with_reducible apply R.par2
      | with_reducible apply R.ifs
      | with_reducible apply R.tif
      | with_reducible apply R.test
      | with_reducible apply R.tb'
      | with_reducible apply R.isbl
      | with_reducible apply R.cmp
      | with_reducible apply R.t2i
      | with_reducible apply R.intp
      | with_reducible apply R.and
      | with_reducible apply R.or
      | with_reducible apply R.not
      | with_reducible apply R.andV
      | with_reducible apply R.orV
      | with_reducible apply R.notV
      | with_reducible apply R.chain
      | with_reducible apply R.tupL
      | with_reducible apply R.lstL
      | with_reducible apply R.cat
      | with_reducible apply R.absI
      | with_reducible apply R.intI
      | with_reducible apply R.intB
      | with_reducible apply R.eqS
      | with_reducible apply R.eqBl
      | with_reducible apply R.neBl
      | with_reducible apply R.sl
      | with_reducible apply R.noPart
      | with_reducible apply R.part
      | with_reducible apply R.isInt
      | with_reducible apply R.slL
      | with_reducible apply R.isiT
      | with_reducible apply R.isiLst
      | with_reducible apply R.nwT
      | with_reducible apply R.nwL
      | ((with_reducible apply R.mt); intro HN tn sn nn ht)
      | ((with_reducible apply R.ml); intro HN tn sn nn ht)
      | ((with_reducible apply R.isiTupS); focus ((repeat' (first | with_reducible assumption | with_reducible apply hU | ((with_reducible apply SqT.of); with_reducible assumption) | ((with_reducible apply same_seqT); with_reducible assumption) | ((with_reducible apply kp_seqT); with_reducible assumption) | ((with_reducible apply Dw.same); with_reducible assumption))); done))
      | ((with_reducible apply R.ne4); focus ((repeat' (first | with_reducible assumption | with_reducible apply hU | ((with_reducible apply SqT.of); with_reducible assumption) | ((with_reducible apply same_seqT); with_reducible assumption) | ((with_reducible apply kp_seqT); with_reducible assumption) | ((with_reducible apply Dw.same); with_reducible assumption))); done))
      | ((with_reducible apply R.ne3); focus ((repeat' (first | with_reducible assumption | with_reducible apply hU | ((with_reducible apply SqT.of); with_reducible assumption) | ((with_reducible apply same_seqT); with_reducible assumption) | ((with_reducible apply kp_seqT); with_reducible assumption) | ((with_reducible apply Dw.same); with_reducible assumption))); done))
      | ((with_reducible apply R.ne2); focus ((repeat' (first | with_reducible assumption | with_reducible apply hU | ((with_reducible apply SqT.of); with_reducible assumption) | ((with_reducible apply same_seqT); with_reducible assumption) | ((with_reducible apply kp_seqT); with_reducible assumption) | ((with_reducible apply Dw.same); with_reducible assumption))); done))
      | ((with_reducible apply R.eq4); focus ((repeat' (first | with_reducible assumption | with_reducible apply hU | ((with_reducible apply SqT.of); with_reducible assumption) | ((with_reducible apply same_seqT); with_reducible assumption) | ((with_reducible apply kp_seqT); with_reducible assumption) | ((with_reducible apply Dw.same); with_reducible assumption))); done))
      | ((with_reducible apply R.eq3); focus ((repeat' (first | with_reducible assumption | with_reducible apply hU | ((with_reducible apply SqT.of); with_reducible assumption) | ((with_reducible apply same_seqT); with_reducible assumption) | ((with_reducible apply kp_seqT); with_reducible assumption) | ((with_reducible apply Dw.same); with_reducible assumption))); done))
      | ((with_reducible apply R.eq2); focus ((repeat' (first | with_reducible assumption | with_reducible apply hU | ((with_reducible apply SqT.of); with_reducible assumption) | ((with_reducible apply same_seqT); with_reducible assumption) | ((with_reducible apply kp_seqT); with_reducible assumption) | ((with_reducible apply Dw.same); with_reducible assumption))); done))
      | with_reducible apply uLawNext
      | with_reducible apply uLawWide
      | with_reducible apply uValueAt
      | with_reducible apply uIsSquare
      | ((with_reducible apply R.nw); intro HN tn sn ht)
      | with_reducible apply iteT
      | with_reducible apply iteF
      | with_reducible apply R.notT
      | with_reducible apply R.notF
      | ((with_reducible apply SqT.of); with_reducible assumption)
      | ((with_reducible apply SqL.of); with_reducible assumption)
      | ((with_reducible apply same_seqT); with_reducible assumption)
      | ((with_reducible apply sameB); with_reducible assumption)
      | ((with_reducible apply same_at); with_reducible assumption)
      | ((with_reducible apply kp_seqT); with_reducible assumption)
      | ((with_reducible apply Same.seq); with_reducible assumption)
      | ((with_reducible apply Kp.seqL); with_reducible assumption)
      | ((with_reducible apply fresh_ne); with_reducible assumption)
      | ((with_reducible apply Dw.same); with_reducible assumption)
      | ((with_reducible apply R.isEq); exact eq_true (by first | decide | omega))
      | ((with_reducible apply R.isLt); first | decide | omega)
      | ((with_reducible apply R.isLtI); first | decide | omega)
      | ((with_reducible apply R.isLeI); first | decide | omega)
      | ((with_reducible apply R.cdiv); exact rfl)
      | ((with_reducible apply R.cpow); exact rfl)
      | with_reducible apply R.cdivX
      | ((with_reducible apply R.isNe); omega)
      | with_reducible apply hU
      | ((with_reducible apply wayNF); first | exact rfl | exact ⟨rfl, rfl⟩ | exact ⟨rfl, rfl, rfl⟩ | exact ⟨rfl, rfl, rfl, rfl⟩)
      | with_reducible apply R.bm
      | ((with_reducible apply R.bmT); (focus ((first | with_reducible assumption | ((with_reducible apply same_at); with_reducible assumption) | ((with_reducible apply kp_at); with_reducible assumption)); done)))
      | with_reducible apply R.dput
      | with_reducible apply R.dget
      | with_reducible apply R.din
      | with_reducible apply R.dget2
      | with_reducible apply R.forE
      | with_reducible apply R.rng1
      | with_reducible apply R.rng2
      | with_reducible apply R.rg1
      | with_reducible apply R.rg2
      | with_reducible apply R.lcE
      | with_reducible apply R.itup
      | with_reducible apply R.ilst
      )
    refine R.app h13 (by rw [List.length_map]; omega) (fun H14 e14 h14 => ?_)
    have s14 : Same H12 H14 := e14 ▸ same_mut s13 n13
    have d14 := d12.same s14
    have hD14 := s14 _ _ hD12
    clear e14 h14 h13 s13 n13 l13
    have e17 : (5 : Int) * 10 ^ Int.toNat 17 = 500000000000000000 := by decide
    repeat' (first
      | with_reducible apply R.var
      | with_reducible apply R.gsE
      | ((with_reducible apply R.gsN); (focus exact rfl))
      | with_reducible apply R.lenS
      | ((with_reducible apply R.lenB); exact rfl)
      | ((with_reducible apply R.isEq); exact rfl)
      | with_reducible apply R.op
      | with_reducible apply R.i2
      | with_reducible apply R.i0
      | with_reducible apply R.con
      | with_reducible apply R.cons
      | with_reducible apply R.nil
      | with_reducible apply R.gcons
      | with_reducible apply R.gname
      | ((with_reducible apply R.ixT); (focus ((repeat' (first | with_reducible assumption | with_reducible apply hU | ((with_reducible apply SqT.of); with_reducible assumption) | ((with_reducible apply same_seqT); with_reducible assumption) | ((with_reducible apply kp_seqT); with_reducible assumption) | ((with_reducible apply Dw.same); with_reducible assumption))); done)); exact rfl)
      | ((with_reducible apply R.ixL); (focus ((repeat' (first | with_reducible assumption | ((with_reducible apply SqL.of); with_reducible assumption) | ((with_reducible apply Same.seq); with_reducible assumption) | ((with_reducible apply Kp.seqL); with_reducible assumption) | ((with_reducible apply fresh_ne); with_reducible assumption) | ((with_reducible apply Dw.same); with_reducible assumption))); done)); exact rfl)
      | with_reducible assumption
      | with_reducible apply Bd.mulW
      | with_reducible apply Bd.mul
      | with_reducible apply Bd.add
      | with_reducible apply Bd.sub
      | ((with_reducible apply Bd.l8); exact eq_true (by decide))
      | ((with_reducible apply Bd.lit); exact eq_true (by decide))
      | with_reducible apply Bd.neg
      | with_reducible apply Bd.div
      | with_reducible apply Bd.abs
      | with_reducible apply Bd.mod
      | with_reducible apply Bd.fdiv
      | ((with_reducible apply Bd.om); omega)
      | ((with_reducible apply R.isLe); first | decide | omega)
      | with_reducible apply R.un
      | with_reducible apply R.u1
      | with_reducible apply R.tup
      | with_reducible apply R.lst
      | with_reducible apply R.call
      | with_reducible apply R.callB
      | with_reducible apply R.gtup
      | with_reducible apply R.gnil
      | with_reducible apply R.seq
      | with_reducible apply R.asg
      | with_reducible apply R.ret
      | with_reducible apply R.brk
      | with_reducible apply R.cont
      | with_reducible apply R.next
      | with_reducible apply R.drop
      | with_reducible apply R.par
      | with_reducible apply R.par2
      | with_reducible apply R.ifs
      | with_reducible apply R.tif
      | with_reducible apply R.test
      | with_reducible apply R.tb'
      | with_reducible apply R.isbl
      | with_reducible apply R.cmp
      | with_reducible apply R.t2i
      | with_reducible apply R.intp
      | with_reducible apply R.and
      | with_reducible apply R.or
      | with_reducible apply R.not
      | with_reducible apply R.andV
      | with_reducible apply R.orV
      | with_reducible apply R.notV
      | with_reducible apply R.chain
      | with_reducible apply R.tupL
      | with_reducible apply R.lstL
      | with_reducible apply R.cat
      | with_reducible apply R.absI
      | with_reducible apply R.intI
      | with_reducible apply R.intB
      | with_reducible apply R.eqS
      | with_reducible apply R.eqBl
      | with_reducible apply R.neBl
      | with_reducible apply R.sl
      | with_reducible apply R.noPart
      | with_reducible apply R.part
      | with_reducible apply R.isInt
      | with_reducible apply R.slL
      | with_reducible apply R.isiT
      | with_reducible apply R.isiLst
      | with_reducible apply R.nwT
      | with_reducible apply R.nwL
      | ((with_reducible apply R.mt); intro HN tn sn nn ht)
      | ((with_reducible apply R.ml); intro HN tn sn nn ht)
      | ((with_reducible apply R.isiTupS); focus ((repeat' (first | with_reducible assumption | with_reducible apply hU | ((with_reducible apply SqT.of); with_reducible assumption) | ((with_reducible apply same_seqT); with_reducible assumption) | ((with_reducible apply kp_seqT); with_reducible assumption) | ((with_reducible apply Dw.same); with_reducible assumption))); done))
      | ((with_reducible apply R.ne4); focus ((repeat' (first | with_reducible assumption | with_reducible apply hU | ((with_reducible apply SqT.of); with_reducible assumption) | ((with_reducible apply same_seqT); with_reducible assumption) | ((with_reducible apply kp_seqT); with_reducible assumption) | ((with_reducible apply Dw.same); with_reducible assumption))); done))
      | ((with_reducible apply R.ne3); focus ((repeat' (first | with_reducible assumption | with_reducible apply hU | ((with_reducible apply SqT.of); with_reducible assumption) | ((with_reducible apply same_seqT); with_reducible assumption) | ((with_reducible apply kp_seqT); with_reducible assumption) | ((with_reducible apply Dw.same); with_reducible assumption))); done))
      | ((with_reducible apply R.ne2); focus ((repeat' (first | with_reducible assumption | with_reducible apply hU | ((with_reducible apply SqT.of); with_reducible assumption) | ((with_reducible apply same_seqT); with_reducible assumption) | ((with_reducible apply kp_seqT); with_reducible assumption) | ((with_reducible apply Dw.same); with_reducible assumption))); done))
      | ((with_reducible apply R.eq4); focus ((repeat' (first | with_reducible assumption | with_reducible apply hU | ((with_reducible apply SqT.of); with_reducible assumption) | ((with_reducible apply same_seqT); with_reducible assumption) | ((with_reducible apply kp_seqT); with_reducible assumption) | ((with_reducible apply Dw.same); with_reducible assumption))); done))
      | ((with_reducible apply R.eq3); focus ((repeat' (first | with_reducible assumption | with_reducible apply hU | ((with_reducible apply SqT.of); with_reducible assumption) | ((with_reducible apply same_seqT); with_reducible assumption) | ((with_reducible apply kp_seqT); with_reducible assumption) | ((with_reducible apply Dw.same); with_reducible assumption))); done))
      | ((with_reducible apply R.eq2); focus ((repeat' (first | with_reducible assumption | with_reducible apply hU | ((with_reducible apply SqT.of); with_reducible assumption) | ((with_reducible apply same_seqT); with_reducible assumption) | ((with_reducible apply kp_seqT); with_reducible assumption) | ((with_reducible apply Dw.same); with_reducible assumption))); done))
      | with_reducible apply uLawNext
      | with_reducible apply uLawWide
      | with_reducible apply uValueAt
      | with_reducible apply uIsSquare
      | ((with_reducible apply R.nw); intro HN tn sn ht)
      | with_reducible apply iteT
      | with_reducible apply iteF
      | with_reducible apply R.notT
      | with_reducible apply R.notF
      | ((with_reducible apply SqT.of); with_reducible assumption)
      | ((with_reducible apply SqL.of); with_reducible assumption)
      | ((with_reducible apply same_seqT); with_reducible assumption)
      | ((with_reducible apply sameB); with_reducible assumption)
      | ((with_reducible apply same_at); with_reducible assumption)
      | ((with_reducible apply kp_seqT); with_reducible assumption)
      | ((with_reducible apply Same.seq); with_reducible assumption)
      | ((with_reducible apply Kp.seqL); with_reducible assumption)
      | ((with_reducible apply fresh_ne); with_reducible assumption)
      | ((with_reducible apply Dw.same); with_reducible assumption)
      | ((with_reducible apply R.isEq); exact eq_true (by first | decide | omega))
      | ((with_reducible apply R.isLt); first | decide | omega)
      | ((with_reducible apply R.isLtI); first | decide | omega)
      | ((with_reducible apply R.isLeI); first | decide | omega)
      | ((with_reducible apply R.cdiv); exact rfl)
      | ((with_reducible apply R.cpow); exact rfl)
      | with_reducible apply R.cdivX
      | ((with_reducible apply R.isNe); omega)
      | with_reducible apply hU
      | ((with_reducible apply wayNF); first | exact rfl | exact ⟨rfl, rfl⟩ | exact ⟨rfl, rfl, rfl⟩ | exact ⟨rfl, rfl, rfl, rfl⟩)
      | with_reducible apply R.bm
      | ((with_reducible apply R.bmT); (focus ((first | with_reducible assumption | ((with_reducible apply same_at); with_reducible assumption) | ((with_reducible apply kp_at); with_reducible assumption)); done)))
      | with_reducible apply R.dput
      | with_reducible apply R.dget
      | with_reducible apply R.din
      | with_reducible apply R.dget2
      | with_reducible apply R.forE
      | with_reducible apply R.rng1
      | with_reducible apply R.rng2
      | with_reducible apply R.rg1
      | with_reducible apply R.rg2
      | with_reducible apply R.lcE
      | with_reducible apply R.itup
      | with_reducible apply R.ilst
      )
    intro x1 H15 x1a x1b d15 k15
    have x1b' : x1 < 1000000000000000000 := x1b
    have bf : Bd 60 (x1 - 5 * 10 ^ Int.toNat 17) := by
      rw [e17]
      exact Bd.om (by omega)
    have hD15 : H15 D = some (.lst (due.map V.int)) := k15 _ _ (d10.ne nD).1 hD14
    repeat' (first
      | with_reducible apply R.var
      | with_reducible apply R.gsE
      | ((with_reducible apply R.gsN); (focus exact rfl))
      | with_reducible apply R.lenS
      | ((with_reducible apply R.lenB); exact rfl)
      | ((with_reducible apply R.isEq); exact rfl)
      | with_reducible apply R.op
      | with_reducible apply R.i2
      | with_reducible apply R.i0
      | with_reducible apply R.con
      | with_reducible apply R.cons
      | with_reducible apply R.nil
      | with_reducible apply R.gcons
      | with_reducible apply R.gname
      | ((with_reducible apply R.ixT); (focus ((repeat' (first | with_reducible assumption | with_reducible apply hU | ((with_reducible apply SqT.of); with_reducible assumption) | ((with_reducible apply same_seqT); with_reducible assumption) | ((with_reducible apply kp_seqT); with_reducible assumption) | ((with_reducible apply Dw.same); with_reducible assumption))); done)); exact rfl)
      | ((with_reducible apply R.ixL); (focus ((repeat' (first | with_reducible assumption | ((with_reducible apply SqL.of); with_reducible assumption) | ((with_reducible apply Same.seq); with_reducible assumption) | ((with_reducible apply Kp.seqL); with_reducible assumption) | ((with_reducible apply fresh_ne); with_reducible assumption) | ((with_reducible apply Dw.same); with_reducible assumption))); done)); exact rfl)
      | with_reducible assumption
      | with_reducible apply Bd.mulW
      | with_reducible apply Bd.mul
      | with_reducible apply Bd.add
      | with_reducible apply Bd.sub
      | ((with_reducible apply Bd.l8); exact eq_true (by decide))
      | ((with_reducible apply Bd.lit); exact eq_true (by decide))
      | with_reducible apply Bd.neg
      | with_reducible apply Bd.div
      | with_reducible apply Bd.abs
      | with_reducible apply Bd.mod
      | with_reducible apply Bd.fdiv
      | ((with_reducible apply Bd.om); omega)
      | ((with_reducible apply R.isLe); first | decide | omega)
      | with_reducible apply R.un
      | with_reducible apply R.u1
      | with_reducible apply R.tup
      | with_reducible apply R.lst
      | with_reducible apply R.call
      | with_reducible apply R.callB
      | with_reducible apply R.gtup
      | with_reducible apply R.gnil
      | with_reducible apply R.seq
      | with_reducible apply R.asg
      | with_reducible apply R.ret
      | with_reducible apply R.brk
      | with_reducible apply R.cont
      | with_reducible apply R.next
      | with_reducible apply R.drop
      | with_reducible apply R.par
      | with_reducible apply R.par2
      | with_reducible apply R.ifs
      | with_reducible apply R.tif
      | with_reducible apply R.test
      | with_reducible apply R.tb'
      | with_reducible apply R.isbl
      | with_reducible apply R.cmp
      | with_reducible apply R.t2i
      | with_reducible apply R.intp
      | with_reducible apply R.and
      | with_reducible apply R.or
      | with_reducible apply R.not
      | with_reducible apply R.andV
      | with_reducible apply R.orV
      | with_reducible apply R.notV
      | with_reducible apply R.chain
      | with_reducible apply R.tupL
      | with_reducible apply R.lstL
      | with_reducible apply R.cat
      | with_reducible apply R.absI
      | with_reducible apply R.intI
      | with_reducible apply R.intB
      | with_reducible apply R.eqS
      | with_reducible apply R.eqBl
      | with_reducible apply R.neBl
      | with_reducible apply R.sl
      | with_reducible apply R.noPart
      | with_reducible apply R.part
      | with_reducible apply R.isInt
      | with_reducible apply R.slL
      | with_reducible apply R.isiT
      | with_reducible apply R.isiLst
      | with_reducible apply R.nwT
      | with_reducible apply R.nwL
      | ((with_reducible apply R.mt); intro HN tn sn nn ht)
      | ((with_reducible apply R.ml); intro HN tn sn nn ht)
      | ((with_reducible apply R.isiTupS); focus ((repeat' (first | with_reducible assumption | with_reducible apply hU | ((with_reducible apply SqT.of); with_reducible assumption) | ((with_reducible apply same_seqT); with_reducible assumption) | ((with_reducible apply kp_seqT); with_reducible assumption) | ((with_reducible apply Dw.same); with_reducible assumption))); done))
      | ((with_reducible apply R.ne4); focus ((repeat' (first | with_reducible assumption | with_reducible apply hU | ((with_reducible apply SqT.of); with_reducible assumption) | ((with_reducible apply same_seqT); with_reducible assumption) | ((with_reducible apply kp_seqT); with_reducible assumption) | ((with_reducible apply Dw.same); with_reducible assumption))); done))
      | ((with_reducible apply R.ne3); focus ((repeat' (first | with_reducible assumption | with_reducible apply hU | ((with_reducible apply SqT.of); with_reducible assumption) | ((with_reducible apply same_seqT); with_reducible assumption) | ((with_reducible apply kp_seqT); with_reducible assumption) | ((with_reducible apply Dw.same); with_reducible assumption))); done))
      | ((with_reducible apply R.ne2); focus ((repeat' (first | with_reducible assumption | with_reducible apply hU | ((with_reducible apply SqT.of); with_reducible assumption) | ((with_reducible apply same_seqT); with_reducible assumption) | ((with_reducible apply kp_seqT); with_reducible assumption) | ((with_reducible apply Dw.same); with_reducible assumption))); done))
      | ((with_reducible apply R.eq4); focus ((repeat' (first | with_reducible assumption | with_reducible apply hU | ((with_reducible apply SqT.of); with_reducible assumption) | ((with_reducible apply same_seqT); with_reducible assumption) | ((with_reducible apply kp_seqT); with_reducible assumption) | ((with_reducible apply Dw.same); with_reducible assumption))); done))
      | ((with_reducible apply R.eq3); focus ((repeat' (first | with_reducible assumption | with_reducible apply hU | ((with_reducible apply SqT.of); with_reducible assumption) | ((with_reducible apply same_seqT); with_reducible assumption) | ((with_reducible apply kp_seqT); with_reducible assumption) | ((with_reducible apply Dw.same); with_reducible assumption))); done))
      | ((with_reducible apply R.eq2); focus ((repeat' (first | with_reducible assumption | with_reducible apply hU | ((with_reducible apply SqT.of); with_reducible assumption) | ((with_reducible apply same_seqT); with_reducible assumption) | ((with_reducible apply kp_seqT); with_reducible assumption) | ((with_reducible apply Dw.same); with_reducible assumption))); done))
      | with_reducible apply uLawNext
      | with_reducible apply uLawWide
      | with_reducible apply uValueAt
      | with_reducible apply uIsSquare
      | ((with_reducible apply R.nw); intro HN tn sn ht)
      | with_reducible apply iteT
      | with_reducible apply iteF
      | with_reducible apply R.notT
      | with_reducible apply R.notF
      | ((with_reducible apply SqT.of); with_reducible assumption)
      | ((with_reducible apply SqL.of); with_reducible assumption)
      | ((with_reducible apply same_seqT); with_reducible assumption)
      | ((with_reducible apply sameB); with_reducible assumption)
      | ((with_reducible apply same_at); with_reducible assumption)
      | ((with_reducible apply kp_seqT); with_reducible assumption)
      | ((with_reducible apply Same.seq); with_reducible assumption)
      | ((with_reducible apply Kp.seqL); with_reducible assumption)
      | ((with_reducible apply fresh_ne); with_reducible assumption)
      | ((with_reducible apply Dw.same); with_reducible assumption)
      | ((with_reducible apply R.isEq); exact eq_true (by first | decide | omega))
      | ((with_reducible apply R.isLt); first | decide | omega)
      | ((with_reducible apply R.isLtI); first | decide | omega)
      | ((with_reducible apply R.isLeI); first | decide | omega)
      | ((with_reducible apply R.cdiv); exact rfl)
      | ((with_reducible apply R.cpow); exact rfl)
      | with_reducible apply R.cdivX
      | ((with_reducible apply R.isNe); omega)
      | with_reducible apply hU
      | ((with_reducible apply wayNF); first | exact rfl | exact ⟨rfl, rfl⟩ | exact ⟨rfl, rfl, rfl⟩ | exact ⟨rfl, rfl, rfl, rfl⟩)
      | with_reducible apply R.bm
      | ((with_reducible apply R.bmT); (focus ((first | with_reducible assumption | ((with_reducible apply same_at); with_reducible assumption) | ((with_reducible apply kp_at); with_reducible assumption)); done)))
      | with_reducible apply R.dput
      | with_reducible apply R.dget
      | with_reducible apply R.din
      | with_reducible apply R.dget2
      | with_reducible apply R.forE
      | with_reducible apply R.rng1
      | with_reducible apply R.rng2
      | with_reducible apply R.rg1
      | with_reducible apply R.rg2
      | with_reducible apply R.lcE
      | with_reducible apply R.itup
      | with_reducible apply R.ilst
      )
    generalize x1 - 5 * 10 ^ Int.toNat 17 = far at *
    intro x2 H16 x2a x2b d16 k16
    repeat' (first
      | with_reducible apply R.var
      | with_reducible apply R.gsE
      | ((with_reducible apply R.gsN); (focus exact rfl))
      | with_reducible apply R.lenS
      | ((with_reducible apply R.lenB); exact rfl)
      | ((with_reducible apply R.isEq); exact rfl)
      | with_reducible apply R.op
      | with_reducible apply R.i2
      | with_reducible apply R.i0
      | with_reducible apply R.con
      | with_reducible apply R.cons
      | with_reducible apply R.nil
      | with_reducible apply R.gcons
      | with_reducible apply R.gname
      | ((with_reducible apply R.ixT); (focus ((repeat' (first | with_reducible assumption | with_reducible apply hU | ((with_reducible apply SqT.of); with_reducible assumption) | ((with_reducible apply same_seqT); with_reducible assumption) | ((with_reducible apply kp_seqT); with_reducible assumption) | ((with_reducible apply Dw.same); with_reducible assumption))); done)); exact rfl)
      | ((with_reducible apply R.ixL); (focus ((repeat' (first | with_reducible assumption | ((with_reducible apply SqL.of); with_reducible assumption) | ((with_reducible apply Same.seq); with_reducible assumption) | ((with_reducible apply Kp.seqL); with_reducible assumption) | ((with_reducible apply fresh_ne); with_reducible assumption) | ((with_reducible apply Dw.same); with_reducible assumption))); done)); exact rfl)
      | with_reducible assumption
      | with_reducible apply Bd.mulW
      | with_reducible apply Bd.mul
      | with_reducible apply Bd.add
      | with_reducible apply Bd.sub
      | ((with_reducible apply Bd.l8); exact eq_true (by decide))
      | ((with_reducible apply Bd.lit); exact eq_true (by decide))
      | with_reducible apply Bd.neg
      | with_reducible apply Bd.div
      | with_reducible apply Bd.abs
      | with_reducible apply Bd.mod
      | with_reducible apply Bd.fdiv
      | ((with_reducible apply Bd.om); omega)
      | ((with_reducible apply R.isLe); first | decide | omega)
      | with_reducible apply R.un
      | with_reducible apply R.u1
      | with_reducible apply R.tup
      | with_reducible apply R.lst
      | with_reducible apply R.call
      | with_reducible apply R.callB
      | with_reducible apply R.gtup
      | with_reducible apply R.gnil
      | with_reducible apply R.seq
      | with_reducible apply R.asg
      | with_reducible apply R.ret
      | with_reducible apply R.brk
      | with_reducible apply R.cont
      | with_reducible apply R.next
      | with_reducible apply R.drop
      | with_reducible apply R.par
      | with_reducible apply R.par2
      | with_reducible apply R.ifs
      | with_reducible apply R.tif
      | with_reducible apply R.test
      | with_reducible apply R.tb'
      | with_reducible apply R.isbl
      | with_reducible apply R.cmp
      | with_reducible apply R.t2i
      | with_reducible apply R.intp
      | with_reducible apply R.and
      | with_reducible apply R.or
      | with_reducible apply R.not
      | with_reducible apply R.andV
      | with_reducible apply R.orV
      | with_reducible apply R.notV
      | with_reducible apply R.chain
      | with_reducible apply R.tupL
      | with_reducible apply R.lstL
      | with_reducible apply R.cat
      | with_reducible apply R.absI
      | with_reducible apply R.intI
      | with_reducible apply R.intB
      | with_reducible apply R.eqS
      | with_reducible apply R.eqBl
      | with_reducible apply R.neBl
      | with_reducible apply R.sl
      | with_reducible apply R.noPart
      | with_reducible apply R.part
      | with_reducible apply R.isInt
      | with_reducible apply R.slL
      | with_reducible apply R.isiT
      | with_reducible apply R.isiLst
      | with_reducible apply R.nwT
      | with_reducible apply R.nwL
      | ((with_reducible apply R.mt); intro HN tn sn nn ht)
      | ((with_reducible apply R.ml); intro HN tn sn nn ht)
      | ((with_reducible apply R.isiTupS); focus ((repeat' (first | with_reducible assumption | with_reducible apply hU | ((with_reducible apply SqT.of); with_reducible assumption) | ((with_reducible apply same_seqT); with_reducible assumption) | ((with_reducible apply kp_seqT); with_reducible assumption) | ((with_reducible apply Dw.same); with_reducible assumption))); done))
      | ((with_reducible apply R.ne4); focus ((repeat' (first | with_reducible assumption | with_reducible apply hU | ((with_reducible apply SqT.of); with_reducible assumption) | ((with_reducible apply same_seqT); with_reducible assumption) | ((with_reducible apply kp_seqT); with_reducible assumption) | ((with_reducible apply Dw.same); with_reducible assumption))); done))
      | ((with_reducible apply R.ne3); focus ((repeat' (first | with_reducible assumption | with_reducible apply hU | ((with_reducible apply SqT.of); with_reducible assumption) | ((with_reducible apply same_seqT); with_reducible assumption) | ((with_reducible apply kp_seqT); with_reducible assumption) | ((with_reducible apply Dw.same); with_reducible assumption))); done))
      | ((with_reducible apply R.ne2); focus ((repeat' (first | with_reducible assumption | with_reducible apply hU | ((with_reducible apply SqT.of); with_reducible assumption) | ((with_reducible apply same_seqT); with_reducible assumption) | ((with_reducible apply kp_seqT); with_reducible assumption) | ((with_reducible apply Dw.same); with_reducible assumption))); done))
      | ((with_reducible apply R.eq4); focus ((repeat' (first | with_reducible assumption | with_reducible apply hU | ((with_reducible apply SqT.of); with_reducible assumption) | ((with_reducible apply same_seqT); with_reducible assumption) | ((with_reducible apply kp_seqT); with_reducible assumption) | ((with_reducible apply Dw.same); with_reducible assumption))); done))
      | ((with_reducible apply R.eq3); focus ((repeat' (first | with_reducible assumption | with_reducible apply hU | ((with_reducible apply SqT.of); with_reducible assumption) | ((with_reducible apply same_seqT); with_reducible assumption) | ((with_reducible apply kp_seqT); with_reducible assumption) | ((with_reducible apply Dw.same); with_reducible assumption))); done))
      | ((with_reducible apply R.eq2); focus ((repeat' (first | with_reducible assumption | with_reducible apply hU | ((with_reducible apply SqT.of); with_reducible assumption) | ((with_reducible apply same_seqT); with_reducible assumption) | ((with_reducible apply kp_seqT); with_reducible assumption) | ((with_reducible apply Dw.same); with_reducible assumption))); done))
      | with_reducible apply uLawNext
      | with_reducible apply uLawWide
      | with_reducible apply uValueAt
      | with_reducible apply uIsSquare
      | ((with_reducible apply R.nw); intro HN tn sn ht)
      | with_reducible apply iteT
      | with_reducible apply iteF
      | with_reducible apply R.notT
      | with_reducible apply R.notF
      | ((with_reducible apply SqT.of); with_reducible assumption)
      | ((with_reducible apply SqL.of); with_reducible assumption)
      | ((with_reducible apply same_seqT); with_reducible assumption)
      | ((with_reducible apply sameB); with_reducible assumption)
      | ((with_reducible apply same_at); with_reducible assumption)
      | ((with_reducible apply kp_seqT); with_reducible assumption)
      | ((with_reducible apply Same.seq); with_reducible assumption)
      | ((with_reducible apply Kp.seqL); with_reducible assumption)
      | ((with_reducible apply fresh_ne); with_reducible assumption)
      | ((with_reducible apply Dw.same); with_reducible assumption)
      | ((with_reducible apply R.isEq); exact eq_true (by first | decide | omega))
      | ((with_reducible apply R.isLt); first | decide | omega)
      | ((with_reducible apply R.isLtI); first | decide | omega)
      | ((with_reducible apply R.isLeI); first | decide | omega)
      | ((with_reducible apply R.cdiv); exact rfl)
      | ((with_reducible apply R.cpow); exact rfl)
      | with_reducible apply R.cdivX
      | ((with_reducible apply R.isNe); omega)
      | with_reducible apply hU
      | ((with_reducible apply wayNF); first | exact rfl | exact ⟨rfl, rfl⟩ | exact ⟨rfl, rfl, rfl⟩ | exact ⟨rfl, rfl, rfl, rfl⟩)
      | with_reducible apply R.bm
      | ((with_reducible apply R.bmT); (focus ((first | with_reducible assumption | ((with_reducible apply same_at); with_reducible assumption) | ((with_reducible apply kp_at); with_reducible assumption)); done)))
      | with_reducible apply R.dput
      | with_reducible apply R.dget
      | with_reducible apply R.din
      | with_reducible apply R.dget2
      | with_reducible apply R.forE
      | with_reducible apply R.rng1
      | with_reducible apply R.rng2
      | with_reducible apply R.rg1
      | with_reducible apply R.rg2
      | with_reducible apply R.lcE
      | with_reducible apply R.itup
      | with_reducible apply R.ilst
      )
    intro x3 H17 x3a x3b d17 k17
    have x3b' : x3 < 1000000000000000000 := x3b
    have bf2 : far.natAbs < 1152921504606846976 := bf
    repeat' (first
      | with_reducible apply R.var
      | with_reducible apply R.gsE
      | ((with_reducible apply R.gsN); (focus exact rfl))
      | with_reducible apply R.lenS
      | ((with_reducible apply R.lenB); exact rfl)
      | ((with_reducible apply R.isEq); exact rfl)
      | with_reducible apply R.op
      | with_reducible apply R.i2
      | with_reducible apply R.i0
      | with_reducible apply R.con
      | with_reducible apply R.cons
      | with_reducible apply R.nil
      | with_reducible apply R.gcons
      | with_reducible apply R.gname
      | ((with_reducible apply R.ixT); (focus ((repeat' (first | with_reducible assumption | with_reducible apply hU | ((with_reducible apply SqT.of); with_reducible assumption) | ((with_reducible apply same_seqT); with_reducible assumption) | ((with_reducible apply kp_seqT); with_reducible assumption) | ((with_reducible apply Dw.same); with_reducible assumption))); done)); exact rfl)
      | ((with_reducible apply R.ixL); (focus ((repeat' (first | with_reducible assumption | ((with_reducible apply SqL.of); with_reducible assumption) | ((with_reducible apply Same.seq); with_reducible assumption) | ((with_reducible apply Kp.seqL); with_reducible assumption) | ((with_reducible apply fresh_ne); with_reducible assumption) | ((with_reducible apply Dw.same); with_reducible assumption))); done)); exact rfl)
      | with_reducible assumption
      | with_reducible apply Bd.mulW
      | with_reducible apply Bd.mul
      | with_reducible apply Bd.add
      | with_reducible apply Bd.sub
      | ((with_reducible apply Bd.l8); exact eq_true (by decide))
      | ((with_reducible apply Bd.lit); exact eq_true (by decide))
      | with_reducible apply Bd.neg
      | with_reducible apply Bd.div
      | with_reducible apply Bd.abs
      | with_reducible apply Bd.mod
      | with_reducible apply Bd.fdiv
      | ((with_reducible apply Bd.om); omega)
      | ((with_reducible apply R.isLe); first | decide | omega)
      | with_reducible apply R.un
      | with_reducible apply R.u1
      | with_reducible apply R.tup
      | with_reducible apply R.lst
      | with_reducible apply R.call
      | with_reducible apply R.callB
      | with_reducible apply R.gtup
      | with_reducible apply R.gnil
      | with_reducible apply R.seq
      | with_reducible apply R.asg
      | with_reducible apply R.ret
      | with_reducible apply R.brk
      | with_reducible apply R.cont
      | with_reducible apply R.next
      | with_reducible apply R.drop
      | with_reducible apply R.par
      | with_reducible apply R.par2
      | with_reducible apply R.ifs
      | with_reducible apply R.tif
      | with_reducible apply R.test
      | with_reducible apply R.tb'
      | with_reducible apply R.isbl
      | with_reducible apply R.cmp
      | with_reducible apply R.t2i
      | with_reducible apply R.intp
      | with_reducible apply R.and
      | with_reducible apply R.or
      | with_reducible apply R.not
      | with_reducible apply R.andV
      | with_reducible apply R.orV
      | with_reducible apply R.notV
      | with_reducible apply R.chain
      | with_reducible apply R.tupL
      | with_reducible apply R.lstL
      | with_reducible apply R.cat
      | with_reducible apply R.absI
      | with_reducible apply R.intI
      | with_reducible apply R.intB
      | with_reducible apply R.eqS
      | with_reducible apply R.eqBl
      | with_reducible apply R.neBl
      | with_reducible apply R.sl
      | with_reducible apply R.noPart
      | with_reducible apply R.part
      | with_reducible apply R.isInt
      | with_reducible apply R.slL
      | with_reducible apply R.isiT
      | with_reducible apply R.isiLst
      | with_reducible apply R.nwT
      | with_reducible apply R.nwL
      | ((with_reducible apply R.mt); intro HN tn sn nn ht)
      | ((with_reducible apply R.ml); intro HN tn sn nn ht)
      | ((with_reducible apply R.isiTupS); focus ((repeat' (first | with_reducible assumption | with_reducible apply hU | ((with_reducible apply SqT.of); with_reducible assumption) | ((with_reducible apply same_seqT); with_reducible assumption) | ((with_reducible apply kp_seqT); with_reducible assumption) | ((with_reducible apply Dw.same); with_reducible assumption))); done))
      | ((with_reducible apply R.ne4); focus ((repeat' (first | with_reducible assumption | with_reducible apply hU | ((with_reducible apply SqT.of); with_reducible assumption) | ((with_reducible apply same_seqT); with_reducible assumption) | ((with_reducible apply kp_seqT); with_reducible assumption) | ((with_reducible apply Dw.same); with_reducible assumption))); done))
      | ((with_reducible apply R.ne3); focus ((repeat' (first | with_reducible assumption | with_reducible apply hU | ((with_reducible apply SqT.of); with_reducible assumption) | ((with_reducible apply same_seqT); with_reducible assumption) | ((with_reducible apply kp_seqT); with_reducible assumption) | ((with_reducible apply Dw.same); with_reducible assumption))); done))
      | ((with_reducible apply R.ne2); focus ((repeat' (first | with_reducible assumption | with_reducible apply hU | ((with_reducible apply SqT.of); with_reducible assumption) | ((with_reducible apply same_seqT); with_reducible assumption) | ((with_reducible apply kp_seqT); with_reducible assumption) | ((with_reducible apply Dw.same); with_reducible assumption))); done))
      | ((with_reducible apply R.eq4); focus ((repeat' (first | with_reducible assumption | with_reducible apply hU | ((with_reducible apply SqT.of); with_reducible assumption) | ((with_reducible apply same_seqT); with_reducible assumption) | ((with_reducible apply kp_seqT); with_reducible assumption) | ((with_reducible apply Dw.same); with_reducible assumption))); done))
      | ((with_reducible apply R.eq3); focus ((repeat' (first | with_reducible assumption | with_reducible apply hU | ((with_reducible apply SqT.of); with_reducible assumption) | ((with_reducible apply same_seqT); with_reducible assumption) | ((with_reducible apply kp_seqT); with_reducible assumption) | ((with_reducible apply Dw.same); with_reducible assumption))); done))
      | ((with_reducible apply R.eq2); focus ((repeat' (first | with_reducible assumption | with_reducible apply hU | ((with_reducible apply SqT.of); with_reducible assumption) | ((with_reducible apply same_seqT); with_reducible assumption) | ((with_reducible apply kp_seqT); with_reducible assumption) | ((with_reducible apply Dw.same); with_reducible assumption))); done))
      | with_reducible apply uLawNext
      | with_reducible apply uLawWide
      | with_reducible apply uValueAt
      | with_reducible apply uIsSquare
      | ((with_reducible apply R.nw); intro HN tn sn ht)
      | with_reducible apply iteT
      | with_reducible apply iteF
      | with_reducible apply R.notT
      | with_reducible apply R.notF
      | ((with_reducible apply SqT.of); with_reducible assumption)
      | ((with_reducible apply SqL.of); with_reducible assumption)
      | ((with_reducible apply same_seqT); with_reducible assumption)
      | ((with_reducible apply sameB); with_reducible assumption)
      | ((with_reducible apply same_at); with_reducible assumption)
      | ((with_reducible apply kp_seqT); with_reducible assumption)
      | ((with_reducible apply Same.seq); with_reducible assumption)
      | ((with_reducible apply Kp.seqL); with_reducible assumption)
      | ((with_reducible apply fresh_ne); with_reducible assumption)
      | ((with_reducible apply Dw.same); with_reducible assumption)
      | ((with_reducible apply R.isEq); exact eq_true (by first | decide | omega))
      | ((with_reducible apply R.isLt); first | decide | omega)
      | ((with_reducible apply R.isLtI); first | decide | omega)
      | ((with_reducible apply R.isLeI); first | decide | omega)
      | ((with_reducible apply R.cdiv); exact rfl)
      | ((with_reducible apply R.cpow); exact rfl)
      | with_reducible apply R.cdivX
      | ((with_reducible apply R.isNe); omega)
      | with_reducible apply hU
      | ((with_reducible apply wayNF); first | exact rfl | exact ⟨rfl, rfl⟩ | exact ⟨rfl, rfl, rfl⟩ | exact ⟨rfl, rfl, rfl, rfl⟩)
      | with_reducible apply R.bm
      | ((with_reducible apply R.bmT); (focus ((first | with_reducible assumption | ((with_reducible apply same_at); with_reducible assumption) | ((with_reducible apply kp_at); with_reducible assumption)); done)))
      | with_reducible apply R.dput
      | with_reducible apply R.dget
      | with_reducible apply R.din
      | with_reducible apply R.dget2
      | with_reducible apply R.forE
      | with_reducible apply R.rng1
      | with_reducible apply R.rng2
      | with_reducible apply R.rg1
      | with_reducible apply R.rg2
      | with_reducible apply R.lcE
      | with_reducible apply R.itup
      | with_reducible apply R.ilst
      )
    intro x4 H18 x4a x4b d18 k18
    obtain ⟨o, bo, eo⟩ : ∃ v : Int, Bd 61 v ∧ atI [V.int far, V.int (far + 1 + 2 * x2), V.int x3] x4 = some (.int v) := by
      obtain rfl | rfl | rfl : x4 = 0 ∨ x4 = 1 ∨ x4 = 2 := by omega
      · exact ⟨_, bf.mono (by decide), rfl⟩
      · exact ⟨_, Bd.of (m := 1152921504606846976 + 20) (by omega) (by decide), rfl⟩
      · exact ⟨_, Bd.of (m := 1000000000000000000) (by omega) (by decide), rfl⟩
    refine R.ixL (xs := [V.int far, V.int (far + 1 + 2 * x2), V.int x3]) (by (repeat' (first | with_reducible assumption | ((with_reducible apply SqL.of); with_reducible assumption) | ((with_reducible apply Same.seq); with_reducible assumption) | ((with_reducible apply Kp.seqL); with_reducible assumption) | ((with_reducible apply fresh_ne); with_reducible assumption) | ((with_reducible apply Dw.same); with_reducible assumption)))) eo ?_
    have hD18 : H18 D = some (.lst (due.map V.int)) := by
      have h2 := k16 _ _ (d10.ne nD).1 hD15
      have h3 := k17 _ _ (d10.ne nD).1 h2
      exact k18 _ _ (d10.ne nD).1 (sn _ _ h3)
    have g0 := hg.2
    clear bf2 d10 d11 d12 d14 d15 d16 d17 hD hD12 hD14 hD15 k12 k15 k16 k17 k18 eo
    repeat' (first
      | with_reducible apply R.var
      | with_reducible apply R.gsE
      | ((with_reducible apply R.gsN); (focus exact rfl))
      | with_reducible apply R.lenS
      | ((with_reducible apply R.lenB); exact rfl)
      | ((with_reducible apply R.isEq); exact rfl)
      | with_reducible apply R.op
      | with_reducible apply R.i2
      | with_reducible apply R.i0
      | with_reducible apply R.con
      | with_reducible apply R.cons
      | with_reducible apply R.nil
      | with_reducible apply R.gcons
      | with_reducible apply R.gname
      | ((with_reducible apply R.ixT); (focus ((repeat' (first | with_reducible assumption | with_reducible apply hU | ((with_reducible apply SqT.of); with_reducible assumption) | ((with_reducible apply same_seqT); with_reducible assumption) | ((with_reducible apply kp_seqT); with_reducible assumption) | ((with_reducible apply Dw.same); with_reducible assumption))); done)); exact rfl)
      | ((with_reducible apply R.ixL); (focus ((repeat' (first | with_reducible assumption | ((with_reducible apply SqL.of); with_reducible assumption) | ((with_reducible apply Same.seq); with_reducible assumption) | ((with_reducible apply Kp.seqL); with_reducible assumption) | ((with_reducible apply fresh_ne); with_reducible assumption) | ((with_reducible apply Dw.same); with_reducible assumption))); done)); exact rfl)
      | with_reducible assumption
      | with_reducible apply Bd.mulW
      | with_reducible apply Bd.mul
      | with_reducible apply Bd.add
      | with_reducible apply Bd.sub
      | ((with_reducible apply Bd.l8); exact eq_true (by decide))
      | ((with_reducible apply Bd.lit); exact eq_true (by decide))
      | with_reducible apply Bd.neg
      | with_reducible apply Bd.div
      | with_reducible apply Bd.abs
      | with_reducible apply Bd.mod
      | with_reducible apply Bd.fdiv
      | ((with_reducible apply Bd.om); omega)
      | ((with_reducible apply R.isLe); first | decide | omega)
      | with_reducible apply R.un
      | with_reducible apply R.u1
      | with_reducible apply R.tup
      | with_reducible apply R.lst
      | with_reducible apply R.call
      | with_reducible apply R.callB
      | with_reducible apply R.gtup
      | with_reducible apply R.gnil
      | with_reducible apply R.seq
      | with_reducible apply R.asg
      | with_reducible apply R.ret
      | with_reducible apply R.brk
      | with_reducible apply R.cont
      | with_reducible apply R.next
      | with_reducible apply R.drop
      | with_reducible apply R.par
      | with_reducible apply R.par2
      | with_reducible apply R.ifs
      | with_reducible apply R.tif
      | with_reducible apply R.test
      | with_reducible apply R.tb'
      | with_reducible apply R.isbl
      | with_reducible apply R.cmp
      | with_reducible apply R.t2i
      | with_reducible apply R.intp
      | with_reducible apply R.and
      | with_reducible apply R.or
      | with_reducible apply R.not
      | with_reducible apply R.andV
      | with_reducible apply R.orV
      | with_reducible apply R.notV
      | with_reducible apply R.chain
      | with_reducible apply R.tupL
      | with_reducible apply R.lstL
      | with_reducible apply R.cat
      | with_reducible apply R.absI
      | with_reducible apply R.intI
      | with_reducible apply R.intB
      | with_reducible apply R.eqS
      | with_reducible apply R.eqBl
      | with_reducible apply R.neBl
      | with_reducible apply R.sl
      | with_reducible apply R.noPart
      | with_reducible apply R.part
      | with_reducible apply R.isInt
      | with_reducible apply R.slL
      | with_reducible apply R.isiT
      | with_reducible apply R.isiLst
      | with_reducible apply R.nwT
      | with_reducible apply R.nwL
      | ((with_reducible apply R.mt); intro HN tn sn nn ht)
      | ((with_reducible apply R.ml); intro HN tn sn nn ht)
      | ((with_reducible apply R.isiTupS); focus ((repeat' (first | with_reducible assumption | with_reducible apply hU | ((with_reducible apply SqT.of); with_reducible assumption) | ((with_reducible apply same_seqT); with_reducible assumption) | ((with_reducible apply kp_seqT); with_reducible assumption) | ((with_reducible apply Dw.same); with_reducible assumption))); done))
      | ((with_reducible apply R.ne4); focus ((repeat' (first | with_reducible assumption | with_reducible apply hU | ((with_reducible apply SqT.of); with_reducible assumption) | ((with_reducible apply same_seqT); with_reducible assumption) | ((with_reducible apply kp_seqT); with_reducible assumption) | ((with_reducible apply Dw.same); with_reducible assumption))); done))
      | ((with_reducible apply R.ne3); focus ((repeat' (first | with_reducible assumption | with_reducible apply hU | ((with_reducible apply SqT.of); with_reducible assumption) | ((with_reducible apply same_seqT); with_reducible assumption) | ((with_reducible apply kp_seqT); with_reducible assumption) | ((with_reducible apply Dw.same); with_reducible assumption))); done))
      | ((with_reducible apply R.ne2); focus ((repeat' (first | with_reducible assumption | with_reducible apply hU | ((with_reducible apply SqT.of); with_reducible assumption) | ((with_reducible apply same_seqT); with_reducible assumption) | ((with_reducible apply kp_seqT); with_reducible assumption) | ((with_reducible apply Dw.same); with_reducible assumption))); done))
      | ((with_reducible apply R.eq4); focus ((repeat' (first | with_reducible assumption | with_reducible apply hU | ((with_reducible apply SqT.of); with_reducible assumption) | ((with_reducible apply same_seqT); with_reducible assumption) | ((with_reducible apply kp_seqT); with_reducible assumption) | ((with_reducible apply Dw.same); with_reducible assumption))); done))
      | ((with_reducible apply R.eq3); focus ((repeat' (first | with_reducible assumption | with_reducible apply hU | ((with_reducible apply SqT.of); with_reducible assumption) | ((with_reducible apply same_seqT); with_reducible assumption) | ((with_reducible apply kp_seqT); with_reducible assumption) | ((with_reducible apply Dw.same); with_reducible assumption))); done))
      | ((with_reducible apply R.eq2); focus ((repeat' (first | with_reducible assumption | with_reducible apply hU | ((with_reducible apply SqT.of); with_reducible assumption) | ((with_reducible apply same_seqT); with_reducible assumption) | ((with_reducible apply kp_seqT); with_reducible assumption) | ((with_reducible apply Dw.same); with_reducible assumption))); done))
      | with_reducible apply uLawNext
      | with_reducible apply uLawWide
      | with_reducible apply uValueAt
      | with_reducible apply uIsSquare
      | ((with_reducible apply R.nw); intro HN tn sn ht)
      | with_reducible apply iteT
      | with_reducible apply iteF
      | with_reducible apply R.notT
      | with_reducible apply R.notF
      | ((with_reducible apply SqT.of); with_reducible assumption)
      | ((with_reducible apply SqL.of); with_reducible assumption)
      | ((with_reducible apply same_seqT); with_reducible assumption)
      | ((with_reducible apply sameB); with_reducible assumption)
      | ((with_reducible apply same_at); with_reducible assumption)
      | ((with_reducible apply kp_seqT); with_reducible assumption)
      | ((with_reducible apply Same.seq); with_reducible assumption)
      | ((with_reducible apply Kp.seqL); with_reducible assumption)
      | ((with_reducible apply fresh_ne); with_reducible assumption)
      | ((with_reducible apply Dw.same); with_reducible assumption)
      | ((with_reducible apply R.isEq); exact eq_true (by first | decide | omega))
      | ((with_reducible apply R.isLt); first | decide | omega)
      | ((with_reducible apply R.isLtI); first | decide | omega)
      | ((with_reducible apply R.isLeI); first | decide | omega)
      | ((with_reducible apply R.cdiv); exact rfl)
      | ((with_reducible apply R.cpow); exact rfl)
      | with_reducible apply R.cdivX
      | ((with_reducible apply R.isNe); omega)
      | with_reducible apply hU
      | ((with_reducible apply wayNF); first | exact rfl | exact ⟨rfl, rfl⟩ | exact ⟨rfl, rfl, rfl⟩ | exact ⟨rfl, rfl, rfl, rfl⟩)
      | with_reducible apply R.bm
      | ((with_reducible apply R.bmT); (focus ((first | with_reducible assumption | ((with_reducible apply same_at); with_reducible assumption) | ((with_reducible apply kp_at); with_reducible assumption)); done)))
      | with_reducible apply R.dput
      | with_reducible apply R.dget
      | with_reducible apply R.din
      | with_reducible apply R.dget2
      | with_reducible apply R.forE
      | with_reducible apply R.rng1
      | with_reducible apply R.rng2
      | with_reducible apply R.rg1
      | with_reducible apply R.rg2
      | with_reducible apply R.lcE
      | with_reducible apply R.itup
      | with_reducible apply R.ilst
      )
    refine uQuadraticRoots rfl (.inl g0) (bg.mono (by decide)) (by apply bdm; (repeat' (first   | with_reducible apply R.var   | with_reducible apply R.gsE   | ((with_reducible apply R.gsN); (focus exact rfl))   | with_reducible apply R.lenS   | ((with_reducible apply R.lenB); exact rfl)   | ((with_reducible apply R.isEq); exact rfl)   | with_reducible apply R.op   | with_reducible apply R.i2   | with_reducible apply R.i0   | with_reducible apply R.con   | with_reducible apply R.cons   | with_reducible apply R.nil   | with_reducible apply R.gcons   | with_reducible apply R.gname   | ((with_reducible apply R.ixT); (focus ((repeat' (first | with_reducible assumption | with_reducible apply hU | ((with_reducible apply SqT.of); with_reducible assumption) | ((with_reducible apply same_seqT); with_reducible assumption) | ((with_reducible apply kp_seqT); with_reducible assumption) | ((with_reducible apply Dw.same); with_reducible assumption))); done)); exact rfl)   | ((with_reducible apply R.ixL); (focus ((repeat' (first | with_reducible assumption | ((with_reducible apply SqL.of); with_reducible assumption) | ((with_reducible apply Same.seq); with_reducible assumption) | ((with_reducible apply Kp.seqL); with_reducible assumption) | ((with_reducible apply fresh_ne); with_reducible assumption) | ((with_reducible apply Dw.same); with_reducible assumption))); done)); exact rfl)   | with_reducible assumption   | with_reducible apply Bd.mulW   | with_reducible apply Bd.mul   | with_reducible apply Bd.add   | with_reducible apply Bd.sub   | ((with_reducible apply Bd.l8); exact eq_true (by decide))   | ((with_reducible apply Bd.lit); exact eq_true (by decide))   | with_reducible apply Bd.neg   | with_reducible apply Bd.div   | with_reducible apply Bd.abs   | with_reducible apply Bd.mod   | with_reducible apply Bd.fdiv   | ((with_reducible apply Bd.om); omega)   | ((with_reducible apply R.isLe); first | decide | omega)   | with_reducible apply R.un   | with_reducible apply R.u1   | with_reducible apply R.tup   | with_reducible apply R.lst   | with_reducible apply R.call   | with_reducible apply R.callB   | with_reducible apply R.gtup   | with_reducible apply R.gnil   | with_reducible apply R.seq   | with_reducible apply R.asg   | with_reducible apply R.ret   | with_reducible apply R.brk   | with_reducible apply R.cont   | with_reducible apply R.next   | with_reducible apply R.drop   | with_reducible apply R.par   | with_reducible apply R.par2   | with_reducible apply R.ifs   | with_reducible apply R.tif   | with_reducible apply R.test   | with_reducible apply R.tb'   | with_reducible apply R.isbl   | with_reducible apply R.cmp   | with_reducible apply R.t2i   | with_reducible apply R.intp   | with_reducible apply R.and   | with_reducible apply R.or   | with_reducible apply R.not   | with_reducible apply R.andV   | with_reducible apply R.orV   | with_reducible apply R.notV   | with_reducible apply R.chain   | with_reducible apply R.tupL   | with_reducible apply R.lstL   | with_reducible apply R.cat   | with_reducible apply R.absI   | with_reducible apply R.intI   | with_reducible apply R.intB   | with_reducible apply R.eqS   | with_reducible apply R.eqBl   | with_reducible apply R.neBl   | with_reducible apply R.sl   | with_reducible apply R.noPart   | with_reducible apply R.part   | with_reducible apply R.isInt   | with_reducible apply R.slL   | with_reducible apply R.isiT   | with_reducible apply R.isiLst   | with_reducible apply R.nwT   | with_reducible apply R.nwL   | ((with_reducible apply R.mt); intro HN tn sn nn ht)   | ((with_reducible apply R.ml); intro HN tn sn nn ht)   | ((with_reducible apply R.isiTupS); focus ((repeat' (first | with_reducible assumption | with_reducible apply hU | ((with_reducible apply SqT.of); with_reducible assumption) | ((with_reducible apply same_seqT); with_reducible assumption) | ((with_reducible apply kp_seqT); with_reducible assumption) | ((with_reducible apply Dw.same); with_reducible assumption))); done))   | ((with_reducible apply R.ne4); focus ((repeat' (first | with_reducible assumption | with_reducible apply hU | ((with_reducible apply SqT.of); with_reducible assumption) | ((with_reducible apply same_seqT); with_reducible assumption) | ((with_reducible apply kp_seqT); with_reducible assumption) | ((with_reducible apply Dw.same); with_reducible assumption))); done))   | ((with_reducible apply R.ne3); focus ((repeat' (first | with_reducible assumption | with_reducible apply hU | ((with_reducible apply SqT.of); with_reducible assumption) | ((with_reducible apply same_seqT); with_reducible assumption) | ((with_reducible apply kp_seqT); with_reducible assumption) | ((with_reducible apply Dw.same); with_reducible assumption))); done))   | ((with_reducible apply R.ne2); focus ((repeat' (first | with_reducible assumption | with_reducible apply hU | ((with_reducible apply SqT.of); with_reducible assumption) | ((with_reducible apply same_seqT); with_reducible assumption) | ((with_reducible apply kp_seqT); with_reducible assumption) | ((with_reducible apply Dw.same); with_reducible assumption))); done))   | ((with_reducible apply R.eq4); focus ((repeat' (first | with_reducible assumption | with_reducible apply hU | ((with_reducible apply SqT.of); with_reducible assumption) | ((with_reducible apply same_seqT); with_reducible assumption) | ((with_reducible apply kp_seqT); with_reducible assumption) | ((with_reducible apply Dw.same); with_reducible assumption))); done))   | ((with_reducible apply R.eq3); focus ((repeat' (first | with_reducible assumption | with_reducible apply hU | ((with_reducible apply SqT.of); with_reducible assumption) | ((with_reducible apply same_seqT); with_reducible assumption) | ((with_reducible apply kp_seqT); with_reducible assumption) | ((with_reducible apply Dw.same); with_reducible assumption))); done))   | ((with_reducible apply R.eq2); focus ((repeat' (first | with_reducible assumption | with_reducible apply hU | ((with_reducible apply SqT.of); with_reducible assumption) | ((with_reducible apply same_seqT); with_reducible assumption) | ((with_reducible apply kp_seqT); with_reducible assumption) | ((with_reducible apply Dw.same); with_reducible assumption))); done))   | with_reducible apply uLawNext   | with_reducible apply uLawWide   | with_reducible apply uValueAt   | with_reducible apply uIsSquare   | ((with_reducible apply R.nw); intro HN tn sn ht)   | with_reducible apply iteT   | with_reducible apply iteF   | with_reducible apply R.notT   | with_reducible apply R.notF   | ((with_reducible apply SqT.of); with_reducible assumption)   | ((with_reducible apply SqL.of); with_reducible assumption)   | ((with_reducible apply same_seqT); with_reducible assumption)   | ((with_reducible apply sameB); with_reducible assumption)   | ((with_reducible apply same_at); with_reducible assumption)   | ((with_reducible apply kp_seqT); with_reducible assumption)   | ((with_reducible apply Same.seq); with_reducible assumption)   | ((with_reducible apply Kp.seqL); with_reducible assumption)   | ((with_reducible apply fresh_ne); with_reducible assumption)   | ((with_reducible apply Dw.same); with_reducible assumption)   | ((with_reducible apply R.isEq); exact eq_true (by first | decide | omega))   | ((with_reducible apply R.isLt); first | decide | omega)   | ((with_reducible apply R.isLtI); first | decide | omega)   | ((with_reducible apply R.isLeI); first | decide | omega)   | ((with_reducible apply R.cdiv); exact rfl)   | ((with_reducible apply R.cpow); exact rfl)   | with_reducible apply R.cdivX   | ((with_reducible apply R.isNe); omega)   | with_reducible apply hU   | ((with_reducible apply wayNF); first | exact rfl | exact ⟨rfl, rfl⟩ | exact ⟨rfl, rfl, rfl⟩ | exact ⟨rfl, rfl, rfl, rfl⟩)   | with_reducible apply R.bm   | ((with_reducible apply R.bmT); (focus ((first | with_reducible assumption | ((with_reducible apply same_at); with_reducible assumption) | ((with_reducible apply kp_at); with_reducible assumption)); done)))   | with_reducible apply R.dput   | with_reducible apply R.dget   | with_reducible apply R.din   | with_reducible apply R.dget2   | with_reducible apply R.forE   | with_reducible apply R.rng1   | with_reducible apply R.rng2   | with_reducible apply R.rg1   | with_reducible apply R.rg2   | with_reducible apply R.lcE   | with_reducible apply R.itup   | with_reducible apply R.ilst   ))) (by apply bdm; (repeat' (first   | with_reducible apply R.var   | with_reducible apply R.gsE   | ((with_reducible apply R.gsN); (focus exact rfl))   | with_reducible apply R.lenS   | ((with_reducible apply R.lenB); exact rfl)   | ((with_reducible apply R.isEq); exact rfl)   | with_reducible apply R.op   | with_reducible apply R.i2   | with_reducible apply R.i0   | with_reducible apply R.con   | with_reducible apply R.cons   | with_reducible apply R.nil   | with_reducible apply R.gcons   | with_reducible apply R.gname   | ((with_reducible apply R.ixT); (focus ((repeat' (first | with_reducible assumption | with_reducible apply hU | ((with_reducible apply SqT.of); with_reducible assumption) | ((with_reducible apply same_seqT); with_reducible assumption) | ((with_reducible apply kp_seqT); with_reducible assumption) | ((with_reducible apply Dw.same); with_reducible assumption))); done)); exact rfl)   | ((with_reducible apply R.ixL); (focus ((repeat' (first | with_reducible assumption | ((with_reducible apply SqL.of); with_reducible assumption) | ((with_reducible apply Same.seq); with_reducible assumption) | ((with_reducible apply Kp.seqL); with_reducible assumption) | ((with_reducible apply fresh_ne); with_reducible assumption) | ((with_reducible apply Dw.same); with_reducible assumption))); done)); exact rfl)   | with_reducible assumption   | with_reducible apply Bd.mulW   | with_reducible apply Bd.mul   | with_reducible apply Bd.add   | with_reducible apply Bd.sub   | ((with_reducible apply Bd.l8); exact eq_true (by decide))   | ((with_reducible apply Bd.lit); exact eq_true (by decide))   | with_reducible apply Bd.neg   | with_reducible apply Bd.div   | with_reducible apply Bd.abs   | with_reducible apply Bd.mod   | with_reducible apply Bd.fdiv   | ((with_reducible apply Bd.om); omega)   | ((with_reducible apply R.isLe); first | decide | omega)   | with_reducible apply R.un   | with_reducible apply R.u1   | with_reducible apply R.tup   | with_reducible apply R.lst   | with_reducible apply R.call   | with_reducible apply R.callB   | with_reducible apply R.gtup   | with_reducible apply R.gnil   | with_reducible apply R.seq   | with_reducible apply R.asg   | with_reducible apply R.ret   | with_reducible apply R.brk   | with_reducible apply R.cont   | with_reducible apply R.next   | with_reducible apply R.drop   | with_reducible apply R.par   | with_reducible apply R.par2   | with_reducible apply R.ifs   | with_reducible apply R.tif   | with_reducible apply R.test   | with_reducible apply R.tb'   | with_reducible apply R.isbl   | with_reducible apply R.cmp   | with_reducible apply R.t2i   | with_reducible apply R.intp   | with_reducible apply R.and   | with_reducible apply R.or   | with_reducible apply R.not   | with_reducible apply R.andV   | with_reducible apply R.orV   | with_reducible apply R.notV   | with_reducible apply R.chain   | with_reducible apply R.tupL   | with_reducible apply R.lstL   | with_reducible apply R.cat   | with_reducible apply R.absI   | with_reducible apply R.intI   | with_reducible apply R.intB   | with_reducible apply R.eqS   | with_reducible apply R.eqBl   | with_reducible apply R.neBl   | with_reducible apply R.sl   | with_reducible apply R.noPart   | with_reducible apply R.part   | with_reducible apply R.isInt   | with_reducible apply R.slL   | with_reducible apply R.isiT   | with_reducible apply R.isiLst   | with_reducible apply R.nwT   | with_reducible apply R.nwL   | ((with_reducible apply R.mt); intro HN tn sn nn ht)   | ((with_reducible apply R.ml); intro HN tn sn nn ht)   | ((with_reducible apply R.isiTupS); focus ((repeat' (first | with_reducible assumption | with_reducible apply hU | ((with_reducible apply SqT.of); with_reducible assumption) | ((with_reducible apply same_seqT); with_reducible assumption) | ((with_reducible apply kp_seqT); with_reducible assumption) | ((with_reducible apply Dw.same); with_reducible assumption))); done))   | ((with_reducible apply R.ne4); focus ((repeat' (first | with_reducible assumption | with_reducible apply hU | ((with_reducible apply SqT.of); with_reducible assumption) | ((with_reducible apply same_seqT); with_reducible assumption) | ((with_reducible apply kp_seqT); with_reducible assumption) | ((with_reducible apply Dw.same); with_reducible assumption))); done))   | ((with_reducible apply R.ne3); focus ((repeat' (first | with_reducible assumption | with_reducible apply hU | ((with_reducible apply SqT.of); with_reducible assumption) | ((with_reducible apply same_seqT); with_reducible assumption) | ((with_reducible apply kp_seqT); with_reducible assumption) | ((with_reducible apply Dw.same); with_reducible assumption))); done))   | ((with_reducible apply R.ne2); focus ((repeat' (first | with_reducible assumption | with_reducible apply hU | ((with_reducible apply SqT.of); with_reducible assumption) | ((with_reducible apply same_seqT); with_reducible assumption) | ((with_reducible apply kp_seqT); with_reducible assumption) | ((with_reducible apply Dw.same); with_reducible assumption))); done))   | ((with_reducible apply R.eq4); focus ((repeat' (first | with_reducible assumption | with_reducible apply hU | ((with_reducible apply SqT.of); with_reducible assumption) | ((with_reducible apply same_seqT); with_reducible assumption) | ((with_reducible apply kp_seqT); with_reducible assumption) | ((with_reducible apply Dw.same); with_reducible assumption))); done))   | ((with_reducible apply R.eq3); focus ((repeat' (first | with_reducible assumption | with_reducible apply hU | ((with_reducible apply SqT.of); with_reducible assumption) | ((with_reducible apply same_seqT); with_reducible assumption) | ((with_reducible apply kp_seqT); with_reducible assumption) | ((with_reducible apply Dw.same); with_reducible assumption))); done))   | ((with_reducible apply R.eq2); focus ((repeat' (first | with_reducible assumption | with_reducible apply hU | ((with_reducible apply SqT.of); with_reducible assumption) | ((with_reducible apply same_seqT); with_reducible assumption) | ((with_reducible apply kp_seqT); with_reducible assumption) | ((with_reducible apply Dw.same); with_reducible assumption))); done))   | with_reducible apply uLawNext   | with_reducible apply uLawWide   | with_reducible apply uValueAt   | with_reducible apply uIsSquare   | ((with_reducible apply R.nw); intro HN tn sn ht)   | with_reducible apply iteT   | with_reducible apply iteF   | with_reducible apply R.notT   | with_reducible apply R.notF   | ((with_reducible apply SqT.of); with_reducible assumption)   | ((with_reducible apply SqL.of); with_reducible assumption)   | ((with_reducible apply same_seqT); with_reducible assumption)   | ((with_reducible apply sameB); with_reducible assumption)   | ((with_reducible apply same_at); with_reducible assumption)   | ((with_reducible apply kp_seqT); with_reducible assumption)   | ((with_reducible apply Same.seq); with_reducible assumption)   | ((with_reducible apply Kp.seqL); with_reducible assumption)   | ((with_reducible apply fresh_ne); with_reducible assumption)   | ((with_reducible apply Dw.same); with_reducible assumption)   | ((with_reducible apply R.isEq); exact eq_true (by first | decide | omega))   | ((with_reducible apply R.isLt); first | decide | omega)   | ((with_reducible apply R.isLtI); first | decide | omega)   | ((with_reducible apply R.isLeI); first | decide | omega)   | ((with_reducible apply R.cdiv); exact rfl)   | ((with_reducible apply R.cpow); exact rfl)   | with_reducible apply R.cdivX   | ((with_reducible apply R.isNe); omega)   | with_reducible apply hU   | ((with_reducible apply wayNF); first | exact rfl | exact ⟨rfl, rfl⟩ | exact ⟨rfl, rfl, rfl⟩ | exact ⟨rfl, rfl, rfl, rfl⟩)   | with_reducible apply R.bm   | ((with_reducible apply R.bmT); (focus ((first | with_reducible assumption | ((with_reducible apply same_at); with_reducible assumption) | ((with_reducible apply kp_at); with_reducible assumption)); done)))   | with_reducible apply R.dput   | with_reducible apply R.dget   | with_reducible apply R.din   | with_reducible apply R.dget2   | with_reducible apply R.forE   | with_reducible apply R.rng1   | with_reducible apply R.rng2   | with_reducible apply R.rg1   | with_reducible apply R.rg2   | with_reducible apply R.lcE   | with_reducible apply R.itup   | with_reducible apply R.ilst   ))) ?_
    intro H19 Lb ts2 s19 n19 h19 R2 l2
    repeat' (first
      | with_reducible apply R.var
      | with_reducible apply R.gsE
      | ((with_reducible apply R.gsN); (focus exact rfl))
      | with_reducible apply R.lenS
      | ((with_reducible apply R.lenB); exact rfl)
      | ((with_reducible apply R.isEq); exact rfl)
      | with_reducible apply R.op
      | with_reducible apply R.i2
      | with_reducible apply R.i0
      | with_reducible apply R.con
      | with_reducible apply R.cons
      | with_reducible apply R.nil
      | with_reducible apply R.gcons
      | with_reducible apply R.gname
      | ((with_reducible apply R.ixT); (focus ((repeat' (first | with_reducible assumption | with_reducible apply hU | ((with_reducible apply SqT.of); with_reducible assumption) | ((with_reducible apply same_seqT); with_reducible assumption) | ((with_reducible apply kp_seqT); with_reducible assumption) | ((with_reducible apply Dw.same); with_reducible assumption))); done)); exact rfl)
      | ((with_reducible apply R.ixL); (focus ((repeat' (first | with_reducible assumption | ((with_reducible apply SqL.of); with_reducible assumption) | ((with_reducible apply Same.seq); with_reducible assumption) | ((with_reducible apply Kp.seqL); with_reducible assumption) | ((with_reducible apply fresh_ne); with_reducible assumption) | ((with_reducible apply Dw.same); with_reducible assumption))); done)); exact rfl)
      | with_reducible assumption
      | with_reducible apply Bd.mulW
      | with_reducible apply Bd.mul
      | with_reducible apply Bd.add
      | with_reducible apply Bd.sub
      | ((with_reducible apply Bd.l8); exact eq_true (by decide))
      | ((with_reducible apply Bd.lit); exact eq_true (by decide))
      | with_reducible apply Bd.neg
      | with_reducible apply Bd.div
      | with_reducible apply Bd.abs
      | with_reducible apply Bd.mod
      | with_reducible apply Bd.fdiv
      | ((with_reducible apply Bd.om); omega)
      | ((with_reducible apply R.isLe); first | decide | omega)
      | with_reducible apply R.un
      | with_reducible apply R.u1
      | with_reducible apply R.tup
      | with_reducible apply R.lst
      | with_reducible apply R.call
      | with_reducible apply R.callB
      | with_reducible apply R.gtup
      | with_reducible apply R.gnil
      | with_reducible apply R.seq
      | with_reducible apply R.asg
      | with_reducible apply R.ret
      | with_reducible apply R.brk
      | with_reducible apply R.cont
      | with_reducible apply R.next
      | with_reducible apply R.drop
      | with_reducible apply R.par
      | with_reducible apply R.par2
      | with_reducible apply R.ifs
      | with_reducible apply R.tif
      | with_reducible apply R.test
      | with_reducible apply R.tb'
      | with_reducible apply R.isbl
      | with_reducible apply R.cmp
      | with_reducible apply R.t2i
      | with_reducible apply R.intp
      | with_reducible apply R.and
      | with_reducible apply R.or
      | with_reducible apply R.not
      | with_reducible apply R.andV
      | with_reducible apply R.orV
      | with_reducible apply R.notV
      | with_reducible apply R.chain
      | with_reducible apply R.tupL
      | with_reducible apply R.lstL
      | with_reducible apply R.cat
      | with_reducible apply R.absI
      | with_reducible apply R.intI
      | with_reducible apply R.intB
      | with_reducible apply R.eqS
      | with_reducible apply R.eqBl
      | with_reducible apply R.neBl
      | with_reducible apply R.sl
      | with_reducible apply R.noPart
      | with_reducible apply R.part
      | with_reducible apply R.isInt
      | with_reducible apply R.slL
      | with_reducible apply R.isiT
      | with_reducible apply R.isiLst
      | with_reducible apply R.nwT
      | with_reducible apply R.nwL
      | ((with_reducible apply R.mt); intro HN tn sn nn ht)
      | ((with_reducible apply R.ml); intro HN tn sn nn ht)
      | ((with_reducible apply R.isiTupS); focus ((repeat' (first | with_reducible assumption | with_reducible apply hU | ((with_reducible apply SqT.of); with_reducible assumption) | ((with_reducible apply same_seqT); with_reducible assumption) | ((with_reducible apply kp_seqT); with_reducible assumption) | ((with_reducible apply Dw.same); with_reducible assumption))); done))
      | ((with_reducible apply R.ne4); focus ((repeat' (first | with_reducible assumption | with_reducible apply hU | ((with_reducible apply SqT.of); with_reducible assumption) | ((with_reducible apply same_seqT); with_reducible assumption) | ((with_reducible apply kp_seqT); with_reducible assumption) | ((with_reducible apply Dw.same); with_reducible assumption))); done))
      | ((with_reducible apply R.ne3); focus ((repeat' (first | with_reducible assumption | with_reducible apply hU | ((with_reducible apply SqT.of); with_reducible assumption) | ((with_reducible apply same_seqT); with_reducible assumption) | ((with_reducible apply kp_seqT); with_reducible assumption) | ((with_reducible apply Dw.same); with_reducible assumption))); done))
      | ((with_reducible apply R.ne2); focus ((repeat' (first | with_reducible assumption | with_reducible apply hU | ((with_reducible apply SqT.of); with_reducible assumption) | ((with_reducible apply same_seqT); with_reducible assumption) | ((with_reducible apply kp_seqT); with_reducible assumption) | ((with_reducible apply Dw.same); with_reducible assumption))); done))
      | ((with_reducible apply R.eq4); focus ((repeat' (first | with_reducible assumption | with_reducible apply hU | ((with_reducible apply SqT.of); with_reducible assumption) | ((with_reducible apply same_seqT); with_reducible assumption) | ((with_reducible apply kp_seqT); with_reducible assumption) | ((with_reducible apply Dw.same); with_reducible assumption))); done))
      | ((with_reducible apply R.eq3); focus ((repeat' (first | with_reducible assumption | with_reducible apply hU | ((with_reducible apply SqT.of); with_reducible assumption) | ((with_reducible apply same_seqT); with_reducible assumption) | ((with_reducible apply kp_seqT); with_reducible assumption) | ((with_reducible apply Dw.same); with_reducible assumption))); done))
      | ((with_reducible apply R.eq2); focus ((repeat' (first | with_reducible assumption | with_reducible apply hU | ((with_reducible apply SqT.of); with_reducible assumption) | ((with_reducible apply same_seqT); with_reducible assumption) | ((with_reducible apply kp_seqT); with_reducible assumption) | ((with_reducible apply Dw.same); with_reducible assumption))); done))
      | with_reducible apply uLawNext
      | with_reducible apply uLawWide
      | with_reducible apply uValueAt
      | with_reducible apply uIsSquare
      | ((with_reducible apply R.nw); intro HN tn sn ht)
      | with_reducible apply iteT
      | with_reducible apply iteF
      | with_reducible apply R.notT
      | with_reducible apply R.notF
      | ((with_reducible apply SqT.of); with_reducible assumption)
      | ((with_reducible apply SqL.of); with_reducible assumption)
      | ((with_reducible apply same_seqT); with_reducible assumption)
      | ((with_reducible apply sameB); with_reducible assumption)
      | ((with_reducible apply same_at); with_reducible assumption)
      | ((with_reducible apply kp_seqT); with_reducible assumption)
      | ((with_reducible apply Same.seq); with_reducible assumption)
      | ((with_reducible apply Kp.seqL); with_reducible assumption)
      | ((with_reducible apply fresh_ne); with_reducible assumption)
      | ((with_reducible apply Dw.same); with_reducible assumption)
      | ((with_reducible apply R.isEq); exact eq_true (by first | decide | omega))
      | ((with_reducible apply R.isLt); first | decide | omega)
      | ((with_reducible apply R.isLtI); first | decide | omega)
      | ((with_reducible apply R.isLeI); first | decide | omega)
      | ((with_reducible apply R.cdiv); exact rfl)
      | ((with_reducible apply R.cpow); exact rfl)
      | with_reducible apply R.cdivX
      | ((with_reducible apply R.isNe); omega)
      | with_reducible apply hU
      | ((with_reducible apply wayNF); first | exact rfl | exact ⟨rfl, rfl⟩ | exact ⟨rfl, rfl, rfl⟩ | exact ⟨rfl, rfl, rfl, rfl⟩)
      | with_reducible apply R.bm
      | ((with_reducible apply R.bmT); (focus ((first | with_reducible assumption | ((with_reducible apply same_at); with_reducible assumption) | ((with_reducible apply kp_at); with_reducible assumption)); done)))
      | with_reducible apply R.dput
      | with_reducible apply R.dget
      | with_reducible apply R.din
      | with_reducible apply R.dget2
      | with_reducible apply R.forE
      | with_reducible apply R.rng1
      | with_reducible apply R.rng2
      | with_reducible apply R.rg1
      | with_reducible apply R.rg2
      | with_reducible apply R.lcE
      | with_reducible apply R.itup
      | with_reducible apply R.ilst
      )
    refine ⟨tn, [far, o], rfl, SqL.of ht, (by show 2 ≤ 1000; decide), fun S cS nS hcS => ?_⟩
    have hS : (upd HN S (SetO w S (fun j => decide (j ∈ [far, o])) cS)) S = some (SetO w S (fun j => decide (j ∈ [far, o])) cS) := upd_same
    have sS := same_upd (o := SetO w S (fun j => decide (j ∈ [far, o])) cS) nS
    generalize upd HN S (SetO w S (fun j => decide (j ∈ [far, o])) cS) = H20 at hS sS ⊢
    repeat' (first
      | with_reducible apply R.var
      | with_reducible apply R.gsE
      | ((with_reducible apply R.gsN); (focus exact rfl))
      | with_reducible apply R.lenS
      | ((with_reducible apply R.lenB); exact rfl)
      | ((with_reducible apply R.isEq); exact rfl)
      | with_reducible apply R.op
      | with_reducible apply R.i2
      | with_reducible apply R.i0
      | with_reducible apply R.con
      | with_reducible apply R.cons
      | with_reducible apply R.nil
      | with_reducible apply R.gcons
      | with_reducible apply R.gname
      | ((with_reducible apply R.ixT); (focus ((repeat' (first | with_reducible assumption | with_reducible apply hU | ((with_reducible apply SqT.of); with_reducible assumption) | ((with_reducible apply same_seqT); with_reducible assumption) | ((with_reducible apply kp_seqT); with_reducible assumption) | ((with_reducible apply Dw.same); with_reducible assumption))); done)); exact rfl)
      | ((with_reducible apply R.ixL); (focus ((repeat' (first | with_reducible assumption | ((with_reducible apply SqL.of); with_reducible assumption) | ((with_reducible apply Same.seq); with_reducible assumption) | ((with_reducible apply Kp.seqL); with_reducible assumption) | ((with_reducible apply fresh_ne); with_reducible assumption) | ((with_reducible apply Dw.same); with_reducible assumption))); done)); exact rfl)
      | with_reducible assumption
      | with_reducible apply Bd.mulW
      | with_reducible apply Bd.mul
      | with_reducible apply Bd.add
      | with_reducible apply Bd.sub
      | ((with_reducible apply Bd.l8); exact eq_true (by decide))
      | ((with_reducible apply Bd.lit); exact eq_true (by decide))
      | with_reducible apply Bd.neg
      | with_reducible apply Bd.div
      | with_reducible apply Bd.abs
      | with_reducible apply Bd.mod
      | with_reducible apply Bd.fdiv
      | ((with_reducible apply Bd.om); omega)
      | ((with_reducible apply R.isLe); first | decide | omega)
      | with_reducible apply R.un
      | with_reducible apply R.u1
      | with_reducible apply R.tup
      | with_reducible apply R.lst
      | with_reducible apply R.call
      | with_reducible apply R.callB
      | with_reducible apply R.gtup
      | with_reducible apply R.gnil
      | with_reducible apply R.seq
      | with_reducible apply R.asg
      | with_reducible apply R.ret
      | with_reducible apply R.brk
      | with_reducible apply R.cont
      | with_reducible apply R.next
      | with_reducible apply R.drop
      | with_reducible apply R.par
      | with_reducible apply R.par2
      | with_reducible apply R.ifs
      | with_reducible apply R.tif
      | with_reducible apply R.test
      | with_reducible apply R.tb'
      | with_reducible apply R.isbl
      | with_reducible apply R.cmp
      | with_reducible apply R.t2i
      | with_reducible apply R.intp
      | with_reducible apply R.and
      | with_reducible apply R.or
      | with_reducible apply R.not
      | with_reducible apply R.andV
      | with_reducible apply R.orV
      | with_reducible apply R.notV
      | with_reducible apply R.chain
      | with_reducible apply R.tupL
      | with_reducible apply R.lstL
      | with_reducible apply R.cat
      | with_reducible apply R.absI
      | with_reducible apply R.intI
      | with_reducible apply R.intB
      | with_reducible apply R.eqS
      | with_reducible apply R.eqBl
      | with_reducible apply R.neBl
      | with_reducible apply R.sl
      | with_reducible apply R.noPart
      | with_reducible apply R.part
      | with_reducible apply R.isInt
      | with_reducible apply R.slL
      | with_reducible apply R.isiT
      | with_reducible apply R.isiLst
      | with_reducible apply R.nwT
      | with_reducible apply R.nwL
      | ((with_reducible apply R.mt); intro HN tn sn nn ht)
      | ((with_reducible apply R.ml); intro HN tn sn nn ht)
      | ((with_reducible apply R.isiTupS); focus ((repeat' (first | with_reducible assumption | with_reducible apply hU | ((with_reducible apply SqT.of); with_reducible assumption) | ((with_reducible apply same_seqT); with_reducible assumption) | ((with_reducible apply kp_seqT); with_reducible assumption) | ((with_reducible apply Dw.same); with_reducible assumption))); done))
      | ((with_reducible apply R.ne4); focus ((repeat' (first | with_reducible assumption | with_reducible apply hU | ((with_reducible apply SqT.of); with_reducible assumption) | ((with_reducible apply same_seqT); with_reducible assumption) | ((with_reducible apply kp_seqT); with_reducible assumption) | ((with_reducible apply Dw.same); with_reducible assumption))); done))
      | ((with_reducible apply R.ne3); focus ((repeat' (first | with_reducible assumption | with_reducible apply hU | ((with_reducible apply SqT.of); with_reducible assumption) | ((with_reducible apply same_seqT); with_reducible assumption) | ((with_reducible apply kp_seqT); with_reducible assumption) | ((with_reducible apply Dw.same); with_reducible assumption))); done))
      | ((with_reducible apply R.ne2); focus ((repeat' (first | with_reducible assumption | with_reducible apply hU | ((with_reducible apply SqT.of); with_reducible assumption) | ((with_reducible apply same_seqT); with_reducible assumption) | ((with_reducible apply kp_seqT); with_reducible assumption) | ((with_reducible apply Dw.same); with_reducible assumption))); done))
      | ((with_reducible apply R.eq4); focus ((repeat' (first | with_reducible assumption | with_reducible apply hU | ((with_reducible apply SqT.of); with_reducible assumption) | ((with_reducible apply same_seqT); with_reducible assumption) | ((with_reducible apply kp_seqT); with_reducible assumption) | ((with_reducible apply Dw.same); with_reducible assumption))); done))
      | ((with_reducible apply R.eq3); focus ((repeat' (first | with_reducible assumption | with_reducible apply hU | ((with_reducible apply SqT.of); with_reducible assumption) | ((with_reducible apply same_seqT); with_reducible assumption) | ((with_reducible apply kp_seqT); with_reducible assumption) | ((with_reducible apply Dw.same); with_reducible assumption))); done))
      | ((with_reducible apply R.eq2); focus ((repeat' (first | with_reducible assumption | with_reducible apply hU | ((with_reducible apply SqT.of); with_reducible assumption) | ((with_reducible apply same_seqT); with_reducible assumption) | ((with_reducible apply kp_seqT); with_reducible assumption) | ((with_reducible apply Dw.same); with_reducible assumption))); done))
      | with_reducible apply uLawNext
      | with_reducible apply uLawWide
      | with_reducible apply uValueAt
      | with_reducible apply uIsSquare
      | ((with_reducible apply R.nw); intro HN tn sn ht)
      | with_reducible apply iteT
      | with_reducible apply iteF
      | with_reducible apply R.notT
      | with_reducible apply R.notF
      | ((with_reducible apply SqT.of); with_reducible assumption)
      | ((with_reducible apply SqL.of); with_reducible assumption)
      | ((with_reducible apply same_seqT); with_reducible assumption)
      | ((with_reducible apply sameB); with_reducible assumption)
      | ((with_reducible apply same_at); with_reducible assumption)
      | ((with_reducible apply kp_seqT); with_reducible assumption)
      | ((with_reducible apply Same.seq); with_reducible assumption)
      | ((with_reducible apply Kp.seqL); with_reducible assumption)
      | ((with_reducible apply fresh_ne); with_reducible assumption)
      | ((with_reducible apply Dw.same); with_reducible assumption)
      | ((with_reducible apply R.isEq); exact eq_true (by first | decide | omega))
      | ((with_reducible apply R.isLt); first | decide | omega)
      | ((with_reducible apply R.isLtI); first | decide | omega)
      | ((with_reducible apply R.isLeI); first | decide | omega)
      | ((with_reducible apply R.cdiv); exact rfl)
      | ((with_reducible apply R.cpow); exact rfl)
      | with_reducible apply R.cdivX
      | ((with_reducible apply R.isNe); omega)
      | with_reducible apply hU
      | ((with_reducible apply wayNF); first | exact rfl | exact ⟨rfl, rfl⟩ | exact ⟨rfl, rfl, rfl⟩ | exact ⟨rfl, rfl, rfl, rfl⟩)
      | with_reducible apply R.bm
      | ((with_reducible apply R.bmT); (focus ((first | with_reducible assumption | ((with_reducible apply same_at); with_reducible assumption) | ((with_reducible apply kp_at); with_reducible assumption)); done)))
      | with_reducible apply R.dput
      | with_reducible apply R.dget
      | with_reducible apply R.din
      | with_reducible apply R.dget2
      | with_reducible apply R.forE
      | with_reducible apply R.rng1
      | with_reducible apply R.rng2
      | with_reducible apply R.rg1
      | with_reducible apply R.rg2
      | with_reducible apply R.lcE
      | with_reducible apply R.itup
      | with_reducible apply R.ilst
      )
    refine ⟨S, _, cS, rfl, hS, Nat.lt_of_le_of_lt hcS (by show 2 < 64; decide), fun ns2 p hlt hmem hlen np => ?_⟩
    have e2 : ts2 = ns2 := lt_ext R2.1 hlt (fun x => by
      rw [R2.2, hmem, decide_eq_true_iff, quad_two g0]
      simp)
    have sp := same_upd (o := .lst (ns2.map V.int)) np
    refine R.neInts (ns := ts2) (ms := ns2) (SqL.of (sp _ _ (sS _ _ (sn _ _ h19)))) (SqL.of upd_same) ?_
    have hD20 := sp _ _ (sS _ _ (sn _ _ (s19 _ _ hD18)))
    generalize upd H20 p (.lst (ns2.map V.int)) = H21 at hD20 ⊢
    clear sp sS hS s19 n19 h19 hmem hlt hlen np nS
    repeat' (first
      | with_reducible apply R.var
      | with_reducible apply R.gsE
      | ((with_reducible apply R.gsN); (focus exact rfl))
      | with_reducible apply R.lenS
      | ((with_reducible apply R.lenB); exact rfl)
      | ((with_reducible apply R.isEq); exact rfl)
      | with_reducible apply R.op
      | with_reducible apply R.i2
      | with_reducible apply R.i0
      | with_reducible apply R.con
      | with_reducible apply R.cons
      | with_reducible apply R.nil
      | with_reducible apply R.gcons
      | with_reducible apply R.gname
      | ((with_reducible apply R.ixT); (focus ((repeat' (first | with_reducible assumption | with_reducible apply hU | ((with_reducible apply SqT.of); with_reducible assumption) | ((with_reducible apply same_seqT); with_reducible assumption) | ((with_reducible apply kp_seqT); with_reducible assumption) | ((with_reducible apply Dw.same); with_reducible assumption))); done)); exact rfl)
      | ((with_reducible apply R.ixL); (focus ((repeat' (first | with_reducible assumption | ((with_reducible apply SqL.of); with_reducible assumption) | ((with_reducible apply Same.seq); with_reducible assumption) | ((with_reducible apply Kp.seqL); with_reducible assumption) | ((with_reducible apply fresh_ne); with_reducible assumption) | ((with_reducible apply Dw.same); with_reducible assumption))); done)); exact rfl)
      | with_reducible assumption
      | with_reducible apply Bd.mulW
      | with_reducible apply Bd.mul
      | with_reducible apply Bd.add
      | with_reducible apply Bd.sub
      | ((with_reducible apply Bd.l8); exact eq_true (by decide))
      | ((with_reducible apply Bd.lit); exact eq_true (by decide))
      | with_reducible apply Bd.neg
      | with_reducible apply Bd.div
      | with_reducible apply Bd.abs
      | with_reducible apply Bd.mod
      | with_reducible apply Bd.fdiv
      | ((with_reducible apply Bd.om); omega)
      | ((with_reducible apply R.isLe); first | decide | omega)
      | with_reducible apply R.un
      | with_reducible apply R.u1
      | with_reducible apply R.tup
      | with_reducible apply R.lst
      | with_reducible apply R.call
      | with_reducible apply R.callB
      | with_reducible apply R.gtup
      | with_reducible apply R.gnil
      | with_reducible apply R.seq
      | with_reducible apply R.asg
      | with_reducible apply R.ret
      | with_reducible apply R.brk
      | with_reducible apply R.cont
      | with_reducible apply R.next
      | with_reducible apply R.drop
      | with_reducible apply R.par
      | with_reducible apply R.par2
      | with_reducible apply R.ifs
      | with_reducible apply R.tif
      | with_reducible apply R.test
      | with_reducible apply R.tb'
      | with_reducible apply R.isbl
      | with_reducible apply R.cmp
      | with_reducible apply R.t2i
      | with_reducible apply R.intp
      | with_reducible apply R.and
      | with_reducible apply R.or
      | with_reducible apply R.not
      | with_reducible apply R.andV
      | with_reducible apply R.orV
      | with_reducible apply R.notV
      | with_reducible apply R.chain
      | with_reducible apply R.tupL
      | with_reducible apply R.lstL
      | with_reducible apply R.cat
      | with_reducible apply R.absI
      | with_reducible apply R.intI
      | with_reducible apply R.intB
      | with_reducible apply R.eqS
      | with_reducible apply R.eqBl
      | with_reducible apply R.neBl
      | with_reducible apply R.sl
      | with_reducible apply R.noPart
      | with_reducible apply R.part
      | with_reducible apply R.isInt
      | with_reducible apply R.slL
      | with_reducible apply R.isiT
      | with_reducible apply R.isiLst
      | with_reducible apply R.nwT
      | with_reducible apply R.nwL
      | ((with_reducible apply R.mt); intro HN tn sn nn ht)
      | ((with_reducible apply R.ml); intro HN tn sn nn ht)
      | ((with_reducible apply R.isiTupS); focus ((repeat' (first | with_reducible assumption | with_reducible apply hU | ((with_reducible apply SqT.of); with_reducible assumption) | ((with_reducible apply same_seqT); with_reducible assumption) | ((with_reducible apply kp_seqT); with_reducible assumption) | ((with_reducible apply Dw.same); with_reducible assumption))); done))
      | ((with_reducible apply R.ne4); focus ((repeat' (first | with_reducible assumption | with_reducible apply hU | ((with_reducible apply SqT.of); with_reducible assumption) | ((with_reducible apply same_seqT); with_reducible assumption) | ((with_reducible apply kp_seqT); with_reducible assumption) | ((with_reducible apply Dw.same); with_reducible assumption))); done))
      | ((with_reducible apply R.ne3); focus ((repeat' (first | with_reducible assumption | with_reducible apply hU | ((with_reducible apply SqT.of); with_reducible assumption) | ((with_reducible apply same_seqT); with_reducible assumption) | ((with_reducible apply kp_seqT); with_reducible assumption) | ((with_reducible apply Dw.same); with_reducible assumption))); done))
      | ((with_reducible apply R.ne2); focus ((repeat' (first | with_reducible assumption | with_reducible apply hU | ((with_reducible apply SqT.of); with_reducible assumption) | ((with_reducible apply same_seqT); with_reducible assumption) | ((with_reducible apply kp_seqT); with_reducible assumption) | ((with_reducible apply Dw.same); with_reducible assumption))); done))
      | ((with_reducible apply R.eq4); focus ((repeat' (first | with_reducible assumption | with_reducible apply hU | ((with_reducible apply SqT.of); with_reducible assumption) | ((with_reducible apply same_seqT); with_reducible assumption) | ((with_reducible apply kp_seqT); with_reducible assumption) | ((with_reducible apply Dw.same); with_reducible assumption))); done))
      | ((with_reducible apply R.eq3); focus ((repeat' (first | with_reducible assumption | with_reducible apply hU | ((with_reducible apply SqT.of); with_reducible assumption) | ((with_reducible apply same_seqT); with_reducible assumption) | ((with_reducible apply kp_seqT); with_reducible assumption) | ((with_reducible apply Dw.same); with_reducible assumption))); done))
      | ((with_reducible apply R.eq2); focus ((repeat' (first | with_reducible assumption | with_reducible apply hU | ((with_reducible apply SqT.of); with_reducible assumption) | ((with_reducible apply same_seqT); with_reducible assumption) | ((with_reducible apply kp_seqT); with_reducible assumption) | ((with_reducible apply Dw.same); with_reducible assumption))); done))
      | with_reducible apply uLawNext
      | with_reducible apply uLawWide
      | with_reducible apply uValueAt
      | with_reducible apply uIsSquare
      | ((with_reducible apply R.nw); intro HN tn sn ht)
      | with_reducible apply iteT
      | with_reducible apply iteF
      | with_reducible apply R.notT
      | with_reducible apply R.notF
      | ((with_reducible apply SqT.of); with_reducible assumption)
      | ((with_reducible apply SqL.of); with_reducible assumption)
      | ((with_reducible apply same_seqT); with_reducible assumption)
      | ((with_reducible apply sameB); with_reducible assumption)
      | ((with_reducible apply same_at); with_reducible assumption)
      | ((with_reducible apply kp_seqT); with_reducible assumption)
      | ((with_reducible apply Same.seq); with_reducible assumption)
      | ((with_reducible apply Kp.seqL); with_reducible assumption)
      | ((with_reducible apply fresh_ne); with_reducible assumption)
      | ((with_reducible apply Dw.same); with_reducible assumption)
      | ((with_reducible apply R.isEq); exact eq_true (by first | decide | omega))
      | ((with_reducible apply R.isLt); first | decide | omega)
      | ((with_reducible apply R.isLtI); first | decide | omega)
      | ((with_reducible apply R.isLeI); first | decide | omega)
      | ((with_reducible apply R.cdiv); exact rfl)
      | ((with_reducible apply R.cpow); exact rfl)
      | with_reducible apply R.cdivX
      | ((with_reducible apply R.isNe); omega)
      | with_reducible apply hU
      | ((with_reducible apply wayNF); first | exact rfl | exact ⟨rfl, rfl⟩ | exact ⟨rfl, rfl, rfl⟩ | exact ⟨rfl, rfl, rfl, rfl⟩)
      | with_reducible apply R.bm
      | ((with_reducible apply R.bmT); (focus ((first | with_reducible assumption | ((with_reducible apply same_at); with_reducible assumption) | ((with_reducible apply kp_at); with_reducible assumption)); done)))
      | with_reducible apply R.dput
      | with_reducible apply R.dget
      | with_reducible apply R.din
      | with_reducible apply R.dget2
      | with_reducible apply R.forE
      | with_reducible apply R.rng1
      | with_reducible apply R.rng2
      | with_reducible apply R.rg1
      | with_reducible apply R.rg2
      | with_reducible apply R.lcE
      | with_reducible apply R.itup
      | with_reducible apply R.ilst
      )
    refine wayNF e2 ?_
    repeat' (first
      | with_reducible apply R.var
      | with_reducible apply R.gsE
      | ((with_reducible apply R.gsN); (focus exact rfl))
      | with_reducible apply R.lenS
      | ((with_reducible apply R.lenB); exact rfl)
      | ((with_reducible apply R.isEq); exact rfl)
      | with_reducible apply R.op
      | with_reducible apply R.i2
      | with_reducible apply R.i0
      | with_reducible apply R.con
      | with_reducible apply R.cons
      | with_reducible apply R.nil
      | with_reducible apply R.gcons
      | with_reducible apply R.gname
      | ((with_reducible apply R.ixT); (focus ((repeat' (first | with_reducible assumption | with_reducible apply hU | ((with_reducible apply SqT.of); with_reducible assumption) | ((with_reducible apply same_seqT); with_reducible assumption) | ((with_reducible apply kp_seqT); with_reducible assumption) | ((with_reducible apply Dw.same); with_reducible assumption))); done)); exact rfl)
      | ((with_reducible apply R.ixL); (focus ((repeat' (first | with_reducible assumption | ((with_reducible apply SqL.of); with_reducible assumption) | ((with_reducible apply Same.seq); with_reducible assumption) | ((with_reducible apply Kp.seqL); with_reducible assumption) | ((with_reducible apply fresh_ne); with_reducible assumption) | ((with_reducible apply Dw.same); with_reducible assumption))); done)); exact rfl)
      | with_reducible assumption
      | with_reducible apply Bd.mulW
      | with_reducible apply Bd.mul
      | with_reducible apply Bd.add
      | with_reducible apply Bd.sub
      | ((with_reducible apply Bd.l8); exact eq_true (by decide))
      | ((with_reducible apply Bd.lit); exact eq_true (by decide))
      | with_reducible apply Bd.neg
      | with_reducible apply Bd.div
      | with_reducible apply Bd.abs
      | with_reducible apply Bd.mod
      | with_reducible apply Bd.fdiv
      | ((with_reducible apply Bd.om); omega)
      | ((with_reducible apply R.isLe); first | decide | omega)
      | with_reducible apply R.un
      | with_reducible apply R.u1
      | with_reducible apply R.tup
      | with_reducible apply R.lst
      | with_reducible apply R.call
      | with_reducible apply R.callB
      | with_reducible apply R.gtup
      | with_reducible apply R.gnil
      | with_reducible apply R.seq
      | with_reducible apply R.asg
      | with_reducible apply R.ret
      | with_reducible apply R.brk
      | with_reducible apply R.cont
      | with_reducible apply R.next
      | with_reducible apply R.drop
      | with_reducible apply R.par
      | with_reducible apply R.par2
      | with_reducible apply R.ifs
      | with_reducible apply R.tif
      | with_reducible apply R.test
      | with_reducible apply R.tb'
      | with_reducible apply R.isbl
      | with_reducible apply R.cmp
      | with_reducible apply R.t2i
      | with_reducible apply R.intp
      | with_reducible apply R.and
      | with_reducible apply R.or
      | with_reducible apply R.not
      | with_reducible apply R.andV
      | with_reducible apply R.orV
      | with_reducible apply R.notV
      | with_reducible apply R.chain
      | with_reducible apply R.tupL
      | with_reducible apply R.lstL
      | with_reducible apply R.cat
      | with_reducible apply R.absI
      | with_reducible apply R.intI
      | with_reducible apply R.intB
      | with_reducible apply R.eqS
      | with_reducible apply R.eqBl
      | with_reducible apply R.neBl
      | with_reducible apply R.sl
      | with_reducible apply R.noPart
      | with_reducible apply R.part
      | with_reducible apply R.isInt
      | with_reducible apply R.slL
      | with_reducible apply R.isiT
      | with_reducible apply R.isiLst
      | with_reducible apply R.nwT
      | with_reducible apply R.nwL
      | ((with_reducible apply R.mt); intro HN tn sn nn ht)
      | ((with_reducible apply R.ml); intro HN tn sn nn ht)
      | ((with_reducible apply R.isiTupS); focus ((repeat' (first | with_reducible assumption | with_reducible apply hU | ((with_reducible apply SqT.of); with_reducible assumption) | ((with_reducible apply same_seqT); with_reducible assumption) | ((with_reducible apply kp_seqT); with_reducible assumption) | ((with_reducible apply Dw.same); with_reducible assumption))); done))
      | ((with_reducible apply R.ne4); focus ((repeat' (first | with_reducible assumption | with_reducible apply hU | ((with_reducible apply SqT.of); with_reducible assumption) | ((with_reducible apply same_seqT); with_reducible assumption) | ((with_reducible apply kp_seqT); with_reducible assumption) | ((with_reducible apply Dw.same); with_reducible assumption))); done))
      | ((with_reducible apply R.ne3); focus ((repeat' (first | with_reducible assumption | with_reducible apply hU | ((with_reducible apply SqT.of); with_reducible assumption) | ((with_reducible apply same_seqT); with_reducible assumption) | ((with_reducible apply kp_seqT); with_reducible assumption) | ((with_reducible apply Dw.same); with_reducible assumption))); done))
      | ((with_reducible apply R.ne2); focus ((repeat' (first | with_reducible assumption | with_reducible apply hU | ((with_reducible apply SqT.of); with_reducible assumption) | ((with_reducible apply same_seqT); with_reducible assumption) | ((with_reducible apply kp_seqT); with_reducible assumption) | ((with_reducible apply Dw.same); with_reducible assumption))); done))
      | ((with_reducible apply R.eq4); focus ((repeat' (first | with_reducible assumption | with_reducible apply hU | ((with_reducible apply SqT.of); with_reducible assumption) | ((with_reducible apply same_seqT); with_reducible assumption) | ((with_reducible apply kp_seqT); with_reducible assumption) | ((with_reducible apply Dw.same); with_reducible assumption))); done))
      | ((with_reducible apply R.eq3); focus ((repeat' (first | with_reducible assumption | with_reducible apply hU | ((with_reducible apply SqT.of); with_reducible assumption) | ((with_reducible apply same_seqT); with_reducible assumption) | ((with_reducible apply kp_seqT); with_reducible assumption) | ((with_reducible apply Dw.same); with_reducible assumption))); done))
      | ((with_reducible apply R.eq2); focus ((repeat' (first | with_reducible assumption | with_reducible apply hU | ((with_reducible apply SqT.of); with_reducible assumption) | ((with_reducible apply same_seqT); with_reducible assumption) | ((with_reducible apply kp_seqT); with_reducible assumption) | ((with_reducible apply Dw.same); with_reducible assumption))); done))
      | with_reducible apply uLawNext
      | with_reducible apply uLawWide
      | with_reducible apply uValueAt
      | with_reducible apply uIsSquare
      | ((with_reducible apply R.nw); intro HN tn sn ht)
      | with_reducible apply iteT
      | with_reducible apply iteF
      | with_reducible apply R.notT
      | with_reducible apply R.notF
      | ((with_reducible apply SqT.of); with_reducible assumption)
      | ((with_reducible apply SqL.of); with_reducible assumption)
      | ((with_reducible apply same_seqT); with_reducible assumption)
      | ((with_reducible apply sameB); with_reducible assumption)
      | ((with_reducible apply same_at); with_reducible assumption)
      | ((with_reducible apply kp_seqT); with_reducible assumption)
      | ((with_reducible apply Same.seq); with_reducible assumption)
      | ((with_reducible apply Kp.seqL); with_reducible assumption)
      | ((with_reducible apply fresh_ne); with_reducible assumption)
      | ((with_reducible apply Dw.same); with_reducible assumption)
      | ((with_reducible apply R.isEq); exact eq_true (by first | decide | omega))
      | ((with_reducible apply R.isLt); first | decide | omega)
      | ((with_reducible apply R.isLtI); first | decide | omega)
      | ((with_reducible apply R.isLeI); first | decide | omega)
      | ((with_reducible apply R.cdiv); exact rfl)
      | ((with_reducible apply R.cpow); exact rfl)
      | with_reducible apply R.cdivX
      | ((with_reducible apply R.isNe); omega)
      | with_reducible apply hU
      | ((with_reducible apply wayNF); first | exact rfl | exact ⟨rfl, rfl⟩ | exact ⟨rfl, rfl, rfl⟩ | exact ⟨rfl, rfl, rfl, rfl⟩)
      | with_reducible apply R.bm
      | ((with_reducible apply R.bmT); (focus ((first | with_reducible assumption | ((with_reducible apply same_at); with_reducible assumption) | ((with_reducible apply kp_at); with_reducible assumption)); done)))
      | with_reducible apply R.dput
      | with_reducible apply R.dget
      | with_reducible apply R.din
      | with_reducible apply R.dget2
      | with_reducible apply R.forE
      | with_reducible apply R.rng1
      | with_reducible apply R.rng2
      | with_reducible apply R.rg1
      | with_reducible apply R.rg2
      | with_reducible apply R.lcE
      | with_reducible apply R.itup
      | with_reducible apply R.ilst
      )
    refine R.cut (Mid := fun σ' H' => σ' = [some (.ref l), some (.ref p0), some (.int g), some (.int (r3 - 20)), some (.int (r4 - 20)), some (.int (1 + r5)), some (.int a), some (.int b), some (.int c), some (.ref D), some (.int (r10 - 450)), some (.int far), some (.int o), none] ∧ Same H21 H') ?_ (fun σ H22 hM => ?_)
    · skip
      repeat' (first
        | with_reducible apply R.var
        | with_reducible apply R.gsE
        | ((with_reducible apply R.gsN); (focus exact rfl))
        | with_reducible apply R.lenS
        | ((with_reducible apply R.lenB); exact rfl)
        | ((with_reducible apply R.isEq); exact rfl)
        | with_reducible apply R.op
        | with_reducible apply R.i2
        | with_reducible apply R.i0
        | with_reducible apply R.con
        | with_reducible apply R.cons
        | with_reducible apply R.nil
        | with_reducible apply R.gcons
        | with_reducible apply R.gname
        | ((with_reducible apply R.ixT); (focus ((repeat' (first | with_reducible assumption | with_reducible apply hU | ((with_reducible apply SqT.of); with_reducible assumption) | ((with_reducible apply same_seqT); with_reducible assumption) | ((with_reducible apply kp_seqT); with_reducible assumption) | ((with_reducible apply Dw.same); with_reducible assumption))); done)); exact rfl)
        | ((with_reducible apply R.ixL); (focus ((repeat' (first | with_reducible assumption | ((with_reducible apply SqL.of); with_reducible assumption) | ((with_reducible apply Same.seq); with_reducible assumption) | ((with_reducible apply Kp.seqL); with_reducible assumption) | ((with_reducible apply fresh_ne); with_reducible assumption) | ((with_reducible apply Dw.same); with_reducible assumption))); done)); exact rfl)
        | with_reducible assumption
        | with_reducible apply Bd.mulW
        | with_reducible apply Bd.mul
        | with_reducible apply Bd.add
        | with_reducible apply Bd.sub
        | ((with_reducible apply Bd.l8); exact eq_true (by decide))
        | ((with_reducible apply Bd.lit); exact eq_true (by decide))
        | with_reducible apply Bd.neg
        | with_reducible apply Bd.div
        | with_reducible apply Bd.abs
        | with_reducible apply Bd.mod
        | with_reducible apply Bd.fdiv
        | ((with_reducible apply Bd.om); omega)
        | ((with_reducible apply R.isLe); first | decide | omega)
        | with_reducible apply R.un
        | with_reducible apply R.u1
        | with_reducible apply R.tup
        | with_reducible apply R.lst
        | with_reducible apply R.call
        | with_reducible apply R.callB
        | with_reducible apply R.gtup
        | with_reducible apply R.gnil
        | with_reducible apply R.seq
        | with_reducible apply R.asg
        | with_reducible apply R.ret
        | with_reducible apply R.brk
        | with_reducible apply R.cont
        | with_reducible apply R.next
        | with_reducible apply R.drop
        | with_reducible apply R.par
        | with_reducible apply R.par2
        | with_reducible apply R.ifs
        | with_reducible apply R.tif
        | with_reducible apply R.test
        | with_reducible apply R.tb'
        | with_reducible apply R.isbl
        | with_reducible apply R.cmp
        | with_reducible apply R.t2i
        | with_reducible apply R.intp
        | with_reducible apply R.and
        | with_reducible apply R.or
        | with_reducible apply R.not
        | with_reducible apply R.andV
        | with_reducible apply R.orV
        | with_reducible apply R.notV
        | with_reducible apply R.chain
        | with_reducible apply R.tupL
        | with_reducible apply R.lstL
        | with_reducible apply R.cat
        | with_reducible apply R.absI
        | with_reducible apply R.intI
        | with_reducible apply R.intB
        | with_reducible apply R.eqS
        | with_reducible apply R.eqBl
        | with_reducible apply R.neBl
        | with_reducible apply R.sl
        | with_reducible apply R.noPart
        | with_reducible apply R.part
        | with_reducible apply R.isInt
        | with_reducible apply R.slL
        | with_reducible apply R.isiT
        | with_reducible apply R.isiLst
        | with_reducible apply R.nwT
        | with_reducible apply R.nwL
        | ((with_reducible apply R.mt); intro HN tn sn nn ht)
        | ((with_reducible apply R.ml); intro HN tn sn nn ht)
        | ((with_reducible apply R.isiTupS); focus ((repeat' (first | with_reducible assumption | with_reducible apply hU | ((with_reducible apply SqT.of); with_reducible assumption) | ((with_reducible apply same_seqT); with_reducible assumption) | ((with_reducible apply kp_seqT); with_reducible assumption) | ((with_reducible apply Dw.same); with_reducible assumption))); done))
        | ((with_reducible apply R.ne4); focus ((repeat' (first | with_reducible assumption | with_reducible apply hU | ((with_reducible apply SqT.of); with_reducible assumption) | ((with_reducible apply same_seqT); with_reducible assumption) | ((with_reducible apply kp_seqT); with_reducible assumption) | ((with_reducible apply Dw.same); with_reducible assumption))); done))
        | ((with_reducible apply R.ne3); focus ((repeat' (first | with_reducible assumption | with_reducible apply hU | ((with_reducible apply SqT.of); with_reducible assumption) | ((with_reducible apply same_seqT); with_reducible assumption) | ((with_reducible apply kp_seqT); with_reducible assumption) | ((with_reducible apply Dw.same); with_reducible assumption))); done))
        | ((with_reducible apply R.ne2); focus ((repeat' (first | with_reducible assumption | with_reducible apply hU | ((with_reducible apply SqT.of); with_reducible assumption) | ((with_reducible apply same_seqT); with_reducible assumption) | ((with_reducible apply kp_seqT); with_reducible assumption) | ((with_reducible apply Dw.same); with_reducible assumption))); done))
        | ((with_reducible apply R.eq4); focus ((repeat' (first | with_reducible assumption | with_reducible apply hU | ((with_reducible apply SqT.of); with_reducible assumption) | ((with_reducible apply same_seqT); with_reducible assumption) | ((with_reducible apply kp_seqT); with_reducible assumption) | ((with_reducible apply Dw.same); with_reducible assumption))); done))
        | ((with_reducible apply R.eq3); focus ((repeat' (first | with_reducible assumption | with_reducible apply hU | ((with_reducible apply SqT.of); with_reducible assumption) | ((with_reducible apply same_seqT); with_reducible assumption) | ((with_reducible apply kp_seqT); with_reducible assumption) | ((with_reducible apply Dw.same); with_reducible assumption))); done))
        | ((with_reducible apply R.eq2); focus ((repeat' (first | with_reducible assumption | with_reducible apply hU | ((with_reducible apply SqT.of); with_reducible assumption) | ((with_reducible apply same_seqT); with_reducible assumption) | ((with_reducible apply kp_seqT); with_reducible assumption) | ((with_reducible apply Dw.same); with_reducible assumption))); done))
        | with_reducible apply uLawNext
        | with_reducible apply uLawWide
        | with_reducible apply uValueAt
        | with_reducible apply uIsSquare
        | ((with_reducible apply R.nw); intro HN tn sn ht)
        | with_reducible apply iteT
        | with_reducible apply iteF
        | with_reducible apply R.notT
        | with_reducible apply R.notF
        | ((with_reducible apply SqT.of); with_reducible assumption)
        | ((with_reducible apply SqL.of); with_reducible assumption)
        | ((with_reducible apply same_seqT); with_reducible assumption)
        | ((with_reducible apply sameB); with_reducible assumption)
        | ((with_reducible apply same_at); with_reducible assumption)
        | ((with_reducible apply kp_seqT); with_reducible assumption)
        | ((with_reducible apply Same.seq); with_reducible assumption)
        | ((with_reducible apply Kp.seqL); with_reducible assumption)
        | ((with_reducible apply fresh_ne); with_reducible assumption)
        | ((with_reducible apply Dw.same); with_reducible assumption)
        | ((with_reducible apply R.isEq); exact eq_true (by first | decide | omega))
        | ((with_reducible apply R.isLt); first | decide | omega)
        | ((with_reducible apply R.isLtI); first | decide | omega)
        | ((with_reducible apply R.isLeI); first | decide | omega)
        | ((with_reducible apply R.cdiv); exact rfl)
        | ((with_reducible apply R.cpow); exact rfl)
        | with_reducible apply R.cdivX
        | ((with_reducible apply R.isNe); omega)
        | with_reducible apply hU
        | ((with_reducible apply wayNF); first | exact rfl | exact ⟨rfl, rfl⟩ | exact ⟨rfl, rfl, rfl⟩ | exact ⟨rfl, rfl, rfl, rfl⟩)
        | with_reducible apply R.bm
        | ((with_reducible apply R.bmT); (focus ((first | with_reducible assumption | ((with_reducible apply same_at); with_reducible assumption) | ((with_reducible apply kp_at); with_reducible assumption)); done)))
        | with_reducible apply R.dput
        | with_reducible apply R.dget
        | with_reducible apply R.din
        | with_reducible apply R.dget2
        | with_reducible apply R.forE
        | with_reducible apply R.rng1
        | with_reducible apply R.rng2
        | with_reducible apply R.rg1
        | with_reducible apply R.rg2
        | with_reducible apply R.lcE
        | with_reducible apply R.itup
        | with_reducible apply R.ilst
        )
      refine wayN2 (fun z => ?_) (fun z => ?_)
      · skip
        repeat' (first
          | with_reducible apply R.var
          | with_reducible apply R.gsE
          | ((with_reducible apply R.gsN); (focus exact rfl))
          | with_reducible apply R.lenS
          | ((with_reducible apply R.lenB); exact rfl)
          | ((with_reducible apply R.isEq); exact rfl)
          | with_reducible apply R.op
          | with_reducible apply R.i2
          | with_reducible apply R.i0
          | with_reducible apply R.con
          | with_reducible apply R.cons
          | with_reducible apply R.nil
          | with_reducible apply R.gcons
          | with_reducible apply R.gname
          | ((with_reducible apply R.ixT); (focus ((repeat' (first | with_reducible assumption | with_reducible apply hU | ((with_reducible apply SqT.of); with_reducible assumption) | ((with_reducible apply same_seqT); with_reducible assumption) | ((with_reducible apply kp_seqT); with_reducible assumption) | ((with_reducible apply Dw.same); with_reducible assumption))); done)); exact rfl)
          | ((with_reducible apply R.ixL); (focus ((repeat' (first | with_reducible assumption | ((with_reducible apply SqL.of); with_reducible assumption) | ((with_reducible apply Same.seq); with_reducible assumption) | ((with_reducible apply Kp.seqL); with_reducible assumption) | ((with_reducible apply fresh_ne); with_reducible assumption) | ((with_reducible apply Dw.same); with_reducible assumption))); done)); exact rfl)
          | with_reducible assumption
          | with_reducible apply Bd.mulW
          | with_reducible apply Bd.mul
          | with_reducible apply Bd.add
          | with_reducible apply Bd.sub
          | ((with_reducible apply Bd.l8); exact eq_true (by decide))
          | ((with_reducible apply Bd.lit); exact eq_true (by decide))
          | with_reducible apply Bd.neg
          | with_reducible apply Bd.div
          | with_reducible apply Bd.abs
          | with_reducible apply Bd.mod
          | with_reducible apply Bd.fdiv
          | ((with_reducible apply Bd.om); omega)
          | ((with_reducible apply R.isLe); first | decide | omega)
          | with_reducible apply R.un
          | with_reducible apply R.u1
          | with_reducible apply R.tup
          | with_reducible apply R.lst
          | with_reducible apply R.call
          | with_reducible apply R.callB
          | with_reducible apply R.gtup
          | with_reducible apply R.gnil
          | with_reducible apply R.seq
          | with_reducible apply R.asg
          | with_reducible apply R.ret
          | with_reducible apply R.brk
          | with_reducible apply R.cont
          | with_reducible apply R.next
          | with_reducible apply R.drop
          | with_reducible apply R.par
          | with_reducible apply R.par2
          | with_reducible apply R.ifs
          | with_reducible apply R.tif
          | with_reducible apply R.test
          | with_reducible apply R.tb'
          | with_reducible apply R.isbl
          | with_reducible apply R.cmp
          | with_reducible apply R.t2i
          | with_reducible apply R.intp
          | with_reducible apply R.and
          | with_reducible apply R.or
          | with_reducible apply R.not
          | with_reducible apply R.andV
          | with_reducible apply R.orV
          | with_reducible apply R.notV
          | with_reducible apply R.chain
          | with_reducible apply R.tupL
          | with_reducible apply R.lstL
          | with_reducible apply R.cat
          | with_reducible apply R.absI
          | with_reducible apply R.intI
          | with_reducible apply R.intB
          | with_reducible apply R.eqS
          | with_reducible apply R.eqBl
          | with_reducible apply R.neBl
          | with_reducible apply R.sl
          | with_reducible apply R.noPart
          | with_reducible apply R.part
          | with_reducible apply R.isInt
          | with_reducible apply R.slL
          | with_reducible apply R.isiT
          | with_reducible apply R.isiLst
          | with_reducible apply R.nwT
          | with_reducible apply R.nwL
          | ((with_reducible apply R.mt); intro HN tn sn nn ht)
          | ((with_reducible apply R.ml); intro HN tn sn nn ht)
          | ((with_reducible apply R.isiTupS); focus ((repeat' (first | with_reducible assumption | with_reducible apply hU | ((with_reducible apply SqT.of); with_reducible assumption) | ((with_reducible apply same_seqT); with_reducible assumption) | ((with_reducible apply kp_seqT); with_reducible assumption) | ((with_reducible apply Dw.same); with_reducible assumption))); done))
          | ((with_reducible apply R.ne4); focus ((repeat' (first | with_reducible assumption | with_reducible apply hU | ((with_reducible apply SqT.of); with_reducible assumption) | ((with_reducible apply same_seqT); with_reducible assumption) | ((with_reducible apply kp_seqT); with_reducible assumption) | ((with_reducible apply Dw.same); with_reducible assumption))); done))
          | ((with_reducible apply R.ne3); focus ((repeat' (first | with_reducible assumption | with_reducible apply hU | ((with_reducible apply SqT.of); with_reducible assumption) | ((with_reducible apply same_seqT); with_reducible assumption) | ((with_reducible apply kp_seqT); with_reducible assumption) | ((with_reducible apply Dw.same); with_reducible assumption))); done))
          | ((with_reducible apply R.ne2); focus ((repeat' (first | with_reducible assumption | with_reducible apply hU | ((with_reducible apply SqT.of); with_reducible assumption) | ((with_reducible apply same_seqT); with_reducible assumption) | ((with_reducible apply kp_seqT); with_reducible assumption) | ((with_reducible apply Dw.same); with_reducible assumption))); done))
          | ((with_reducible apply R.eq4); focus ((repeat' (first | with_reducible assumption | with_reducible apply hU | ((with_reducible apply SqT.of); with_reducible assumption) | ((with_reducible apply same_seqT); with_reducible assumption) | ((with_reducible apply kp_seqT); with_reducible assumption) | ((with_reducible apply Dw.same); with_reducible assumption))); done))
          | ((with_reducible apply R.eq3); focus ((repeat' (first | with_reducible assumption | with_reducible apply hU | ((with_reducible apply SqT.of); with_reducible assumption) | ((with_reducible apply same_seqT); with_reducible assumption) | ((with_reducible apply kp_seqT); with_reducible assumption) | ((with_reducible apply Dw.same); with_reducible assumption))); done))
          | ((with_reducible apply R.eq2); focus ((repeat' (first | with_reducible assumption | with_reducible apply hU | ((with_reducible apply SqT.of); with_reducible assumption) | ((with_reducible apply same_seqT); with_reducible assumption) | ((with_reducible apply kp_seqT); with_reducible assumption) | ((with_reducible apply Dw.same); with_reducible assumption))); done))
          | with_reducible apply uLawNext
          | with_reducible apply uLawWide
          | with_reducible apply uValueAt
          | with_reducible apply uIsSquare
          | ((with_reducible apply R.nw); intro HN tn sn ht)
          | with_reducible apply iteT
          | with_reducible apply iteF
          | with_reducible apply R.notT
          | with_reducible apply R.notF
          | ((with_reducible apply SqT.of); with_reducible assumption)
          | ((with_reducible apply SqL.of); with_reducible assumption)
          | ((with_reducible apply same_seqT); with_reducible assumption)
          | ((with_reducible apply sameB); with_reducible assumption)
          | ((with_reducible apply same_at); with_reducible assumption)
          | ((with_reducible apply kp_seqT); with_reducible assumption)
          | ((with_reducible apply Same.seq); with_reducible assumption)
          | ((with_reducible apply Kp.seqL); with_reducible assumption)
          | ((with_reducible apply fresh_ne); with_reducible assumption)
          | ((with_reducible apply Dw.same); with_reducible assumption)
          | ((with_reducible apply R.isEq); exact eq_true (by first | decide | omega))
          | ((with_reducible apply R.isLt); first | decide | omega)
          | ((with_reducible apply R.isLtI); first | decide | omega)
          | ((with_reducible apply R.isLeI); first | decide | omega)
          | ((with_reducible apply R.cdiv); exact rfl)
          | ((with_reducible apply R.cpow); exact rfl)
          | with_reducible apply R.cdivX
          | ((with_reducible apply R.isNe); omega)
          | with_reducible apply hU
          | ((with_reducible apply wayNF); first | exact rfl | exact ⟨rfl, rfl⟩ | exact ⟨rfl, rfl, rfl⟩ | exact ⟨rfl, rfl, rfl, rfl⟩)
          | with_reducible apply R.bm
          | ((with_reducible apply R.bmT); (focus ((first | with_reducible assumption | ((with_reducible apply same_at); with_reducible assumption) | ((with_reducible apply kp_at); with_reducible assumption)); done)))
          | with_reducible apply R.dput
          | with_reducible apply R.dget
          | with_reducible apply R.din
          | with_reducible apply R.dget2
          | with_reducible apply R.forE
          | with_reducible apply R.rng1
          | with_reducible apply R.rng2
          | with_reducible apply R.rg1
          | with_reducible apply R.rg2
          | with_reducible apply R.lcE
          | with_reducible apply R.itup
          | with_reducible apply R.ilst
          )
        refine uQuadraticRoots rfl (.inl g0) (bg.mono (by decide)) (by apply bdm; (repeat' (first   | with_reducible apply R.var   | with_reducible apply R.gsE   | ((with_reducible apply R.gsN); (focus exact rfl))   | with_reducible apply R.lenS   | ((with_reducible apply R.lenB); exact rfl)   | ((with_reducible apply R.isEq); exact rfl)   | with_reducible apply R.op   | with_reducible apply R.i2   | with_reducible apply R.i0   | with_reducible apply R.con   | with_reducible apply R.cons   | with_reducible apply R.nil   | with_reducible apply R.gcons   | with_reducible apply R.gname   | ((with_reducible apply R.ixT); (focus ((repeat' (first | with_reducible assumption | with_reducible apply hU | ((with_reducible apply SqT.of); with_reducible assumption) | ((with_reducible apply same_seqT); with_reducible assumption) | ((with_reducible apply kp_seqT); with_reducible assumption) | ((with_reducible apply Dw.same); with_reducible assumption))); done)); exact rfl)   | ((with_reducible apply R.ixL); (focus ((repeat' (first | with_reducible assumption | ((with_reducible apply SqL.of); with_reducible assumption) | ((with_reducible apply Same.seq); with_reducible assumption) | ((with_reducible apply Kp.seqL); with_reducible assumption) | ((with_reducible apply fresh_ne); with_reducible assumption) | ((with_reducible apply Dw.same); with_reducible assumption))); done)); exact rfl)   | with_reducible assumption   | with_reducible apply Bd.mulW   | with_reducible apply Bd.mul   | with_reducible apply Bd.add   | with_reducible apply Bd.sub   | ((with_reducible apply Bd.l8); exact eq_true (by decide))   | ((with_reducible apply Bd.lit); exact eq_true (by decide))   | with_reducible apply Bd.neg   | with_reducible apply Bd.div   | with_reducible apply Bd.abs   | with_reducible apply Bd.mod   | with_reducible apply Bd.fdiv   | ((with_reducible apply Bd.om); omega)   | ((with_reducible apply R.isLe); first | decide | omega)   | with_reducible apply R.un   | with_reducible apply R.u1   | with_reducible apply R.tup   | with_reducible apply R.lst   | with_reducible apply R.call   | with_reducible apply R.callB   | with_reducible apply R.gtup   | with_reducible apply R.gnil   | with_reducible apply R.seq   | with_reducible apply R.asg   | with_reducible apply R.ret   | with_reducible apply R.brk   | with_reducible apply R.cont   | with_reducible apply R.next   | with_reducible apply R.drop   | with_reducible apply R.par   | with_reducible apply R.par2   | with_reducible apply R.ifs   | with_reducible apply R.tif   | with_reducible apply R.test   | with_reducible apply R.tb'   | with_reducible apply R.isbl   | with_reducible apply R.cmp   | with_reducible apply R.t2i   | with_reducible apply R.intp   | with_reducible apply R.and   | with_reducible apply R.or   | with_reducible apply R.not   | with_reducible apply R.andV   | with_reducible apply R.orV   | with_reducible apply R.notV   | with_reducible apply R.chain   | with_reducible apply R.tupL   | with_reducible apply R.lstL   | with_reducible apply R.cat   | with_reducible apply R.absI   | with_reducible apply R.intI   | with_reducible apply R.intB   | with_reducible apply R.eqS   | with_reducible apply R.eqBl   | with_reducible apply R.neBl   | with_reducible apply R.sl   | with_reducible apply R.noPart   | with_reducible apply R.part   | with_reducible apply R.isInt   | with_reducible apply R.slL   | with_reducible apply R.isiT   | with_reducible apply R.isiLst   | with_reducible apply R.nwT   | with_reducible apply R.nwL   | ((with_reducible apply R.mt); intro HN tn sn nn ht)   | ((with_reducible apply R.ml); intro HN tn sn nn ht)   | ((with_reducible apply R.isiTupS); focus ((repeat' (first | with_reducible assumption | with_reducible apply hU | ((with_reducible apply SqT.of); with_reducible assumption) | ((with_reducible apply same_seqT); with_reducible assumption) | ((with_reducible apply kp_seqT); with_reducible assumption) | ((with_reducible apply Dw.same); with_reducible assumption))); done))   | ((with_reducible apply R.ne4); focus ((repeat' (first | with_reducible assumption | with_reducible apply hU | ((with_reducible apply SqT.of); with_reducible assumption) | ((with_reducible apply same_seqT); with_reducible assumption) | ((with_reducible apply kp_seqT); with_reducible assumption) | ((with_reducible apply Dw.same); with_reducible assumption))); done))   | ((with_reducible apply R.ne3); focus ((repeat' (first | with_reducible assumption | with_reducible apply hU | ((with_reducible apply SqT.of); with_reducible assumption) | ((with_reducible apply same_seqT); with_reducible assumption) | ((with_reducible apply kp_seqT); with_reducible assumption) | ((with_reducible apply Dw.same); with_reducible assumption))); done))   | ((with_reducible apply R.ne2); focus ((repeat' (first | with_reducible assumption | with_reducible apply hU | ((with_reducible apply SqT.of); with_reducible assumption) | ((with_reducible apply same_seqT); with_reducible assumption) | ((with_reducible apply kp_seqT); with_reducible assumption) | ((with_reducible apply Dw.same); with_reducible assumption))); done))   | ((with_reducible apply R.eq4); focus ((repeat' (first | with_reducible assumption | with_reducible apply hU | ((with_reducible apply SqT.of); with_reducible assumption) | ((with_reducible apply same_seqT); with_reducible assumption) | ((with_reducible apply kp_seqT); with_reducible assumption) | ((with_reducible apply Dw.same); with_reducible assumption))); done))   | ((with_reducible apply R.eq3); focus ((repeat' (first | with_reducible assumption | with_reducible apply hU | ((with_reducible apply SqT.of); with_reducible assumption) | ((with_reducible apply same_seqT); with_reducible assumption) | ((with_reducible apply kp_seqT); with_reducible assumption) | ((with_reducible apply Dw.same); with_reducible assumption))); done))   | ((with_reducible apply R.eq2); focus ((repeat' (first | with_reducible assumption | with_reducible apply hU | ((with_reducible apply SqT.of); with_reducible assumption) | ((with_reducible apply same_seqT); with_reducible assumption) | ((with_reducible apply kp_seqT); with_reducible assumption) | ((with_reducible apply Dw.same); with_reducible assumption))); done))   | with_reducible apply uLawNext   | with_reducible apply uLawWide   | with_reducible apply uValueAt   | with_reducible apply uIsSquare   | ((with_reducible apply R.nw); intro HN tn sn ht)   | with_reducible apply iteT   | with_reducible apply iteF   | with_reducible apply R.notT   | with_reducible apply R.notF   | ((with_reducible apply SqT.of); with_reducible assumption)   | ((with_reducible apply SqL.of); with_reducible assumption)   | ((with_reducible apply same_seqT); with_reducible assumption)   | ((with_reducible apply sameB); with_reducible assumption)   | ((with_reducible apply same_at); with_reducible assumption)   | ((with_reducible apply kp_seqT); with_reducible assumption)   | ((with_reducible apply Same.seq); with_reducible assumption)   | ((with_reducible apply Kp.seqL); with_reducible assumption)   | ((with_reducible apply fresh_ne); with_reducible assumption)   | ((with_reducible apply Dw.same); with_reducible assumption)   | ((with_reducible apply R.isEq); exact eq_true (by first | decide | omega))   | ((with_reducible apply R.isLt); first | decide | omega)   | ((with_reducible apply R.isLtI); first | decide | omega)   | ((with_reducible apply R.isLeI); first | decide | omega)   | ((with_reducible apply R.cdiv); exact rfl)   | ((with_reducible apply R.cpow); exact rfl)   | with_reducible apply R.cdivX   | ((with_reducible apply R.isNe); omega)   | with_reducible apply hU   | ((with_reducible apply wayNF); first | exact rfl | exact ⟨rfl, rfl⟩ | exact ⟨rfl, rfl, rfl⟩ | exact ⟨rfl, rfl, rfl, rfl⟩)   | with_reducible apply R.bm   | ((with_reducible apply R.bmT); (focus ((first | with_reducible assumption | ((with_reducible apply same_at); with_reducible assumption) | ((with_reducible apply kp_at); with_reducible assumption)); done)))   | with_reducible apply R.dput   | with_reducible apply R.dget   | with_reducible apply R.din   | with_reducible apply R.dget2   | with_reducible apply R.forE   | with_reducible apply R.rng1   | with_reducible apply R.rng2   | with_reducible apply R.rg1   | with_reducible apply R.rg2   | with_reducible apply R.lcE   | with_reducible apply R.itup   | with_reducible apply R.ilst   ))) (by apply bdm; (repeat' (first   | with_reducible apply R.var   | with_reducible apply R.gsE   | ((with_reducible apply R.gsN); (focus exact rfl))   | with_reducible apply R.lenS   | ((with_reducible apply R.lenB); exact rfl)   | ((with_reducible apply R.isEq); exact rfl)   | with_reducible apply R.op   | with_reducible apply R.i2   | with_reducible apply R.i0   | with_reducible apply R.con   | with_reducible apply R.cons   | with_reducible apply R.nil   | with_reducible apply R.gcons   | with_reducible apply R.gname   | ((with_reducible apply R.ixT); (focus ((repeat' (first | with_reducible assumption | with_reducible apply hU | ((with_reducible apply SqT.of); with_reducible assumption) | ((with_reducible apply same_seqT); with_reducible assumption) | ((with_reducible apply kp_seqT); with_reducible assumption) | ((with_reducible apply Dw.same); with_reducible assumption))); done)); exact rfl)   | ((with_reducible apply R.ixL); (focus ((repeat' (first | with_reducible assumption | ((with_reducible apply SqL.of); with_reducible assumption) | ((with_reducible apply Same.seq); with_reducible assumption) | ((with_reducible apply Kp.seqL); with_reducible assumption) | ((with_reducible apply fresh_ne); with_reducible assumption) | ((with_reducible apply Dw.same); with_reducible assumption))); done)); exact rfl)   | with_reducible assumption   | with_reducible apply Bd.mulW   | with_reducible apply Bd.mul   | with_reducible apply Bd.add   | with_reducible apply Bd.sub   | ((with_reducible apply Bd.l8); exact eq_true (by decide))   | ((with_reducible apply Bd.lit); exact eq_true (by decide))   | with_reducible apply Bd.neg   | with_reducible apply Bd.div   | with_reducible apply Bd.abs   | with_reducible apply Bd.mod   | with_reducible apply Bd.fdiv   | ((with_reducible apply Bd.om); omega)   | ((with_reducible apply R.isLe); first | decide | omega)   | with_reducible apply R.un   | with_reducible apply R.u1   | with_reducible apply R.tup   | with_reducible apply R.lst   | with_reducible apply R.call   | with_reducible apply R.callB   | with_reducible apply R.gtup   | with_reducible apply R.gnil   | with_reducible apply R.seq   | with_reducible apply R.asg   | with_reducible apply R.ret   | with_reducible apply R.brk   | with_reducible apply R.cont   | with_reducible apply R.next   | with_reducible apply R.drop   | with_reducible apply R.par   | with_reducible apply R.par2   | with_reducible apply R.ifs   | with_reducible apply R.tif   | with_reducible apply R.test   | with_reducible apply R.tb'   | with_reducible apply R.isbl   | with_reducible apply R.cmp   | with_reducible apply R.t2i   | with_reducible apply R.intp   | with_reducible apply R.and   | with_reducible apply R.or   | with_reducible apply R.not   | with_reducible apply R.andV   | with_reducible apply R.orV   | with_reducible apply R.notV   | with_reducible apply R.chain   | with_reducible apply R.tupL   | with_reducible apply R.lstL   | with_reducible apply R.cat   | with_reducible apply R.absI   | with_reducible apply R.intI   | with_reducible apply R.intB   | with_reducible apply R.eqS   | with_reducible apply R.eqBl   | with_reducible apply R.neBl   | with_reducible apply R.sl   | with_reducible apply R.noPart   | with_reducible apply R.part   | with_reducible apply R.isInt   | with_reducible apply R.slL   | with_reducible apply R.isiT   | with_reducible apply R.isiLst   | with_reducible apply R.nwT   | with_reducible apply R.nwL   | ((with_reducible apply R.mt); intro HN tn sn nn ht)   | ((with_reducible apply R.ml); intro HN tn sn nn ht)   | ((with_reducible apply R.isiTupS); focus ((repeat' (first | with_reducible assumption | with_reducible apply hU | ((with_reducible apply SqT.of); with_reducible assumption) | ((with_reducible apply same_seqT); with_reducible assumption) | ((with_reducible apply kp_seqT); with_reducible assumption) | ((with_reducible apply Dw.same); with_reducible assumption))); done))   | ((with_reducible apply R.ne4); focus ((repeat' (first | with_reducible assumption | with_reducible apply hU | ((with_reducible apply SqT.of); with_reducible assumption) | ((with_reducible apply same_seqT); with_reducible assumption) | ((with_reducible apply kp_seqT); with_reducible assumption) | ((with_reducible apply Dw.same); with_reducible assumption))); done))   | ((with_reducible apply R.ne3); focus ((repeat' (first | with_reducible assumption | with_reducible apply hU | ((with_reducible apply SqT.of); with_reducible assumption) | ((with_reducible apply same_seqT); with_reducible assumption) | ((with_reducible apply kp_seqT); with_reducible assumption) | ((with_reducible apply Dw.same); with_reducible assumption))); done))   | ((with_reducible apply R.ne2); focus ((repeat' (first | with_reducible assumption | with_reducible apply hU | ((with_reducible apply SqT.of); with_reducible assumption) | ((with_reducible apply same_seqT); with_reducible assumption) | ((with_reducible apply kp_seqT); with_reducible assumption) | ((with_reducible apply Dw.same); with_reducible assumption))); done))   | ((with_reducible apply R.eq4); focus ((repeat' (first | with_reducible assumption | with_reducible apply hU | ((with_reducible apply SqT.of); with_reducible assumption) | ((with_reducible apply same_seqT); with_reducible assumption) | ((with_reducible apply kp_seqT); with_reducible assumption) | ((with_reducible apply Dw.same); with_reducible assumption))); done))   | ((with_reducible apply R.eq3); focus ((repeat' (first | with_reducible assumption | with_reducible apply hU | ((with_reducible apply SqT.of); with_reducible assumption) | ((with_reducible apply same_seqT); with_reducible assumption) | ((with_reducible apply kp_seqT); with_reducible assumption) | ((with_reducible apply Dw.same); with_reducible assumption))); done))   | ((with_reducible apply R.eq2); focus ((repeat' (first | with_reducible assumption | with_reducible apply hU | ((with_reducible apply SqT.of); with_reducible assumption) | ((with_reducible apply same_seqT); with_reducible assumption) | ((with_reducible apply kp_seqT); with_reducible assumption) | ((with_reducible apply Dw.same); with_reducible assumption))); done))   | with_reducible apply uLawNext   | with_reducible apply uLawWide   | with_reducible apply uValueAt   | with_reducible apply uIsSquare   | ((with_reducible apply R.nw); intro HN tn sn ht)   | with_reducible apply iteT   | with_reducible apply iteF   | with_reducible apply R.notT   | with_reducible apply R.notF   | ((with_reducible apply SqT.of); with_reducible assumption)   | ((with_reducible apply SqL.of); with_reducible assumption)   | ((with_reducible apply same_seqT); with_reducible assumption)   | ((with_reducible apply sameB); with_reducible assumption)   | ((with_reducible apply same_at); with_reducible assumption)   | ((with_reducible apply kp_seqT); with_reducible assumption)   | ((with_reducible apply Same.seq); with_reducible assumption)   | ((with_reducible apply Kp.seqL); with_reducible assumption)   | ((with_reducible apply fresh_ne); with_reducible assumption)   | ((with_reducible apply Dw.same); with_reducible assumption)   | ((with_reducible apply R.isEq); exact eq_true (by first | decide | omega))   | ((with_reducible apply R.isLt); first | decide | omega)   | ((with_reducible apply R.isLtI); first | decide | omega)   | ((with_reducible apply R.isLeI); first | decide | omega)   | ((with_reducible apply R.cdiv); exact rfl)   | ((with_reducible apply R.cpow); exact rfl)   | with_reducible apply R.cdivX   | ((with_reducible apply R.isNe); omega)   | with_reducible apply hU   | ((with_reducible apply wayNF); first | exact rfl | exact ⟨rfl, rfl⟩ | exact ⟨rfl, rfl, rfl⟩ | exact ⟨rfl, rfl, rfl, rfl⟩)   | with_reducible apply R.bm   | ((with_reducible apply R.bmT); (focus ((first | with_reducible assumption | ((with_reducible apply same_at); with_reducible assumption) | ((with_reducible apply kp_at); with_reducible assumption)); done)))   | with_reducible apply R.dput   | with_reducible apply R.dget   | with_reducible apply R.din   | with_reducible apply R.dget2   | with_reducible apply R.forE   | with_reducible apply R.rng1   | with_reducible apply R.rng2   | with_reducible apply R.rg1   | with_reducible apply R.rg2   | with_reducible apply R.lcE   | with_reducible apply R.itup   | with_reducible apply R.ilst   ))) ?_
        intro H22 Lc ts3 s22 n22 h22 R3 l3
        have e3 : ts3 = [] := by
          cases ts3 with
          | nil => rfl
          | cons x xs => exact absurd ((R3.2 x).mp List.mem_cons_self) (quad_none g0 (by omega))
        repeat' (first
          | with_reducible apply R.var
          | with_reducible apply R.gsE
          | ((with_reducible apply R.gsN); (focus exact rfl))
          | with_reducible apply R.lenS
          | ((with_reducible apply R.lenB); exact rfl)
          | ((with_reducible apply R.isEq); exact rfl)
          | with_reducible apply R.op
          | with_reducible apply R.i2
          | with_reducible apply R.i0
          | with_reducible apply R.con
          | with_reducible apply R.cons
          | with_reducible apply R.nil
          | with_reducible apply R.gcons
          | with_reducible apply R.gname
          | ((with_reducible apply R.ixT); (focus ((repeat' (first | with_reducible assumption | with_reducible apply hU | ((with_reducible apply SqT.of); with_reducible assumption) | ((with_reducible apply same_seqT); with_reducible assumption) | ((with_reducible apply kp_seqT); with_reducible assumption) | ((with_reducible apply Dw.same); with_reducible assumption))); done)); exact rfl)
          | ((with_reducible apply R.ixL); (focus ((repeat' (first | with_reducible assumption | ((with_reducible apply SqL.of); with_reducible assumption) | ((with_reducible apply Same.seq); with_reducible assumption) | ((with_reducible apply Kp.seqL); with_reducible assumption) | ((with_reducible apply fresh_ne); with_reducible assumption) | ((with_reducible apply Dw.same); with_reducible assumption))); done)); exact rfl)
          | with_reducible assumption
          | with_reducible apply Bd.mulW
          | with_reducible apply Bd.mul
          | with_reducible apply Bd.add
          | with_reducible apply Bd.sub
          | ((with_reducible apply Bd.l8); exact eq_true (by decide))
          | ((with_reducible apply Bd.lit); exact eq_true (by decide))
          | with_reducible apply Bd.neg
          | with_reducible apply Bd.div
          | with_reducible apply Bd.abs
          | with_reducible apply Bd.mod
          | with_reducible apply Bd.fdiv
          | ((with_reducible apply Bd.om); omega)
          | ((with_reducible apply R.isLe); first | decide | omega)
          | with_reducible apply R.un
          | with_reducible apply R.u1
          | with_reducible apply R.tup
          | with_reducible apply R.lst
          | with_reducible apply R.call
          | with_reducible apply R.callB
          | with_reducible apply R.gtup
          | with_reducible apply R.gnil
          | with_reducible apply R.seq
          | with_reducible apply R.asg
          | with_reducible apply R.ret
          | with_reducible apply R.brk
          | with_reducible apply R.cont
          | with_reducible apply R.next
          | with_reducible apply R.drop
          | with_reducible apply R.par
          | with_reducible apply R.par2
          | with_reducible apply R.ifs
          | with_reducible apply R.tif
          | with_reducible apply R.test
          | with_reducible apply R.tb'
          | with_reducible apply R.isbl
          | with_reducible apply R.cmp
          | with_reducible apply R.t2i
          | with_reducible apply R.intp
          | with_reducible apply R.and
          | with_reducible apply R.or
          | with_reducible apply R.not
          | with_reducible apply R.andV
          | with_reducible apply R.orV
          | with_reducible apply R.notV
          | with_reducible apply R.chain
          | with_reducible apply R.tupL
          | with_reducible apply R.lstL
          | with_reducible apply R.cat
          | with_reducible apply R.absI
          | with_reducible apply R.intI
          | with_reducible apply R.intB
          | with_reducible apply R.eqS
          | with_reducible apply R.eqBl
          | with_reducible apply R.neBl
          | with_reducible apply R.sl
          | with_reducible apply R.noPart
          | with_reducible apply R.part
          | with_reducible apply R.isInt
          | with_reducible apply R.slL
          | with_reducible apply R.isiT
          | with_reducible apply R.isiLst
          | with_reducible apply R.nwT
          | with_reducible apply R.nwL
          | ((with_reducible apply R.mt); intro HN tn sn nn ht)
          | ((with_reducible apply R.ml); intro HN tn sn nn ht)
          | ((with_reducible apply R.isiTupS); focus ((repeat' (first | with_reducible assumption | with_reducible apply hU | ((with_reducible apply SqT.of); with_reducible assumption) | ((with_reducible apply same_seqT); with_reducible assumption) | ((with_reducible apply kp_seqT); with_reducible assumption) | ((with_reducible apply Dw.same); with_reducible assumption))); done))
          | ((with_reducible apply R.ne4); focus ((repeat' (first | with_reducible assumption | with_reducible apply hU | ((with_reducible apply SqT.of); with_reducible assumption) | ((with_reducible apply same_seqT); with_reducible assumption) | ((with_reducible apply kp_seqT); with_reducible assumption) | ((with_reducible apply Dw.same); with_reducible assumption))); done))
          | ((with_reducible apply R.ne3); focus ((repeat' (first | with_reducible assumption | with_reducible apply hU | ((with_reducible apply SqT.of); with_reducible assumption) | ((with_reducible apply same_seqT); with_reducible assumption) | ((with_reducible apply kp_seqT); with_reducible assumption) | ((with_reducible apply Dw.same); with_reducible assumption))); done))
          | ((with_reducible apply R.ne2); focus ((repeat' (first | with_reducible assumption | with_reducible apply hU | ((with_reducible apply SqT.of); with_reducible assumption) | ((with_reducible apply same_seqT); with_reducible assumption) | ((with_reducible apply kp_seqT); with_reducible assumption) | ((with_reducible apply Dw.same); with_reducible assumption))); done))
          | ((with_reducible apply R.eq4); focus ((repeat' (first | with_reducible assumption | with_reducible apply hU | ((with_reducible apply SqT.of); with_reducible assumption) | ((with_reducible apply same_seqT); with_reducible assumption) | ((with_reducible apply kp_seqT); with_reducible assumption) | ((with_reducible apply Dw.same); with_reducible assumption))); done))
          | ((with_reducible apply R.eq3); focus ((repeat' (first | with_reducible assumption | with_reducible apply hU | ((with_reducible apply SqT.of); with_reducible assumption) | ((with_reducible apply same_seqT); with_reducible assumption) | ((with_reducible apply kp_seqT); with_reducible assumption) | ((with_reducible apply Dw.same); with_reducible assumption))); done))
          | ((with_reducible apply R.eq2); focus ((repeat' (first | with_reducible assumption | with_reducible apply hU | ((with_reducible apply SqT.of); with_reducible assumption) | ((with_reducible apply same_seqT); with_reducible assumption) | ((with_reducible apply kp_seqT); with_reducible assumption) | ((with_reducible apply Dw.same); with_reducible assumption))); done))
          | with_reducible apply uLawNext
          | with_reducible apply uLawWide
          | with_reducible apply uValueAt
          | with_reducible apply uIsSquare
          | ((with_reducible apply R.nw); intro HN tn sn ht)
          | with_reducible apply iteT
          | with_reducible apply iteF
          | with_reducible apply R.notT
          | with_reducible apply R.notF
          | ((with_reducible apply SqT.of); with_reducible assumption)
          | ((with_reducible apply SqL.of); with_reducible assumption)
          | ((with_reducible apply same_seqT); with_reducible assumption)
          | ((with_reducible apply sameB); with_reducible assumption)
          | ((with_reducible apply same_at); with_reducible assumption)
          | ((with_reducible apply kp_seqT); with_reducible assumption)
          | ((with_reducible apply Same.seq); with_reducible assumption)
          | ((with_reducible apply Kp.seqL); with_reducible assumption)
          | ((with_reducible apply fresh_ne); with_reducible assumption)
          | ((with_reducible apply Dw.same); with_reducible assumption)
          | ((with_reducible apply R.isEq); exact eq_true (by first | decide | omega))
          | ((with_reducible apply R.isLt); first | decide | omega)
          | ((with_reducible apply R.isLtI); first | decide | omega)
          | ((with_reducible apply R.isLeI); first | decide | omega)
          | ((with_reducible apply R.cdiv); exact rfl)
          | ((with_reducible apply R.cpow); exact rfl)
          | with_reducible apply R.cdivX
          | ((with_reducible apply R.isNe); omega)
          | with_reducible apply hU
          | ((with_reducible apply wayNF); first | exact rfl | exact ⟨rfl, rfl⟩ | exact ⟨rfl, rfl, rfl⟩ | exact ⟨rfl, rfl, rfl, rfl⟩)
          | with_reducible apply R.bm
          | ((with_reducible apply R.bmT); (focus ((first | with_reducible assumption | ((with_reducible apply same_at); with_reducible assumption) | ((with_reducible apply kp_at); with_reducible assumption)); done)))
          | with_reducible apply R.dput
          | with_reducible apply R.dget
          | with_reducible apply R.din
          | with_reducible apply R.dget2
          | with_reducible apply R.forE
          | with_reducible apply R.rng1
          | with_reducible apply R.rng2
          | with_reducible apply R.rg1
          | with_reducible apply R.rg2
          | with_reducible apply R.lcE
          | with_reducible apply R.itup
          | with_reducible apply R.ilst
          )
        refine R.neInts (ns := ts3) (ms := []) (SqL.of (sn _ _ h22)) (SqL.of ht) ?_
        repeat' (first
          | with_reducible apply R.var
          | with_reducible apply R.gsE
          | ((with_reducible apply R.gsN); (focus exact rfl))
          | with_reducible apply R.lenS
          | ((with_reducible apply R.lenB); exact rfl)
          | ((with_reducible apply R.isEq); exact rfl)
          | with_reducible apply R.op
          | with_reducible apply R.i2
          | with_reducible apply R.i0
          | with_reducible apply R.con
          | with_reducible apply R.cons
          | with_reducible apply R.nil
          | with_reducible apply R.gcons
          | with_reducible apply R.gname
          | ((with_reducible apply R.ixT); (focus ((repeat' (first | with_reducible assumption | with_reducible apply hU | ((with_reducible apply SqT.of); with_reducible assumption) | ((with_reducible apply same_seqT); with_reducible assumption) | ((with_reducible apply kp_seqT); with_reducible assumption) | ((with_reducible apply Dw.same); with_reducible assumption))); done)); exact rfl)
          | ((with_reducible apply R.ixL); (focus ((repeat' (first | with_reducible assumption | ((with_reducible apply SqL.of); with_reducible assumption) | ((with_reducible apply Same.seq); with_reducible assumption) | ((with_reducible apply Kp.seqL); with_reducible assumption) | ((with_reducible apply fresh_ne); with_reducible assumption) | ((with_reducible apply Dw.same); with_reducible assumption))); done)); exact rfl)
          | with_reducible assumption
          | with_reducible apply Bd.mulW
          | with_reducible apply Bd.mul
          | with_reducible apply Bd.add
          | with_reducible apply Bd.sub
          | ((with_reducible apply Bd.l8); exact eq_true (by decide))
          | ((with_reducible apply Bd.lit); exact eq_true (by decide))
          | with_reducible apply Bd.neg
          | with_reducible apply Bd.div
          | with_reducible apply Bd.abs
          | with_reducible apply Bd.mod
          | with_reducible apply Bd.fdiv
          | ((with_reducible apply Bd.om); omega)
          | ((with_reducible apply R.isLe); first | decide | omega)
          | with_reducible apply R.un
          | with_reducible apply R.u1
          | with_reducible apply R.tup
          | with_reducible apply R.lst
          | with_reducible apply R.call
          | with_reducible apply R.callB
          | with_reducible apply R.gtup
          | with_reducible apply R.gnil
          | with_reducible apply R.seq
          | with_reducible apply R.asg
          | with_reducible apply R.ret
          | with_reducible apply R.brk
          | with_reducible apply R.cont
          | with_reducible apply R.next
          | with_reducible apply R.drop
          | with_reducible apply R.par
          | with_reducible apply R.par2
          | with_reducible apply R.ifs
          | with_reducible apply R.tif
          | with_reducible apply R.test
          | with_reducible apply R.tb'
          | with_reducible apply R.isbl
          | with_reducible apply R.cmp
          | with_reducible apply R.t2i
          | with_reducible apply R.intp
          | with_reducible apply R.and
          | with_reducible apply R.or
          | with_reducible apply R.not
          | with_reducible apply R.andV
          | with_reducible apply R.orV
          | with_reducible apply R.notV
          | with_reducible apply R.chain
          | with_reducible apply R.tupL
          | with_reducible apply R.lstL
          | with_reducible apply R.cat
          | with_reducible apply R.absI
          | with_reducible apply R.intI
          | with_reducible apply R.intB
          | with_reducible apply R.eqS
          | with_reducible apply R.eqBl
          | with_reducible apply R.neBl
          | with_reducible apply R.sl
          | with_reducible apply R.noPart
          | with_reducible apply R.part
          | with_reducible apply R.isInt
          | with_reducible apply R.slL
          | with_reducible apply R.isiT
          | with_reducible apply R.isiLst
          | with_reducible apply R.nwT
          | with_reducible apply R.nwL
          | ((with_reducible apply R.mt); intro HN tn sn nn ht)
          | ((with_reducible apply R.ml); intro HN tn sn nn ht)
          | ((with_reducible apply R.isiTupS); focus ((repeat' (first | with_reducible assumption | with_reducible apply hU | ((with_reducible apply SqT.of); with_reducible assumption) | ((with_reducible apply same_seqT); with_reducible assumption) | ((with_reducible apply kp_seqT); with_reducible assumption) | ((with_reducible apply Dw.same); with_reducible assumption))); done))
          | ((with_reducible apply R.ne4); focus ((repeat' (first | with_reducible assumption | with_reducible apply hU | ((with_reducible apply SqT.of); with_reducible assumption) | ((with_reducible apply same_seqT); with_reducible assumption) | ((with_reducible apply kp_seqT); with_reducible assumption) | ((with_reducible apply Dw.same); with_reducible assumption))); done))
          | ((with_reducible apply R.ne3); focus ((repeat' (first | with_reducible assumption | with_reducible apply hU | ((with_reducible apply SqT.of); with_reducible assumption) | ((with_reducible apply same_seqT); with_reducible assumption) | ((with_reducible apply kp_seqT); with_reducible assumption) | ((with_reducible apply Dw.same); with_reducible assumption))); done))
          | ((with_reducible apply R.ne2); focus ((repeat' (first | with_reducible assumption | with_reducible apply hU | ((with_reducible apply SqT.of); with_reducible assumption) | ((with_reducible apply same_seqT); with_reducible assumption) | ((with_reducible apply kp_seqT); with_reducible assumption) | ((with_reducible apply Dw.same); with_reducible assumption))); done))
          | ((with_reducible apply R.eq4); focus ((repeat' (first | with_reducible assumption | with_reducible apply hU | ((with_reducible apply SqT.of); with_reducible assumption) | ((with_reducible apply same_seqT); with_reducible assumption) | ((with_reducible apply kp_seqT); with_reducible assumption) | ((with_reducible apply Dw.same); with_reducible assumption))); done))
          | ((with_reducible apply R.eq3); focus ((repeat' (first | with_reducible assumption | with_reducible apply hU | ((with_reducible apply SqT.of); with_reducible assumption) | ((with_reducible apply same_seqT); with_reducible assumption) | ((with_reducible apply kp_seqT); with_reducible assumption) | ((with_reducible apply Dw.same); with_reducible assumption))); done))
          | ((with_reducible apply R.eq2); focus ((repeat' (first | with_reducible assumption | with_reducible apply hU | ((with_reducible apply SqT.of); with_reducible assumption) | ((with_reducible apply same_seqT); with_reducible assumption) | ((with_reducible apply kp_seqT); with_reducible assumption) | ((with_reducible apply Dw.same); with_reducible assumption))); done))
          | with_reducible apply uLawNext
          | with_reducible apply uLawWide
          | with_reducible apply uValueAt
          | with_reducible apply uIsSquare
          | ((with_reducible apply R.nw); intro HN tn sn ht)
          | with_reducible apply iteT
          | with_reducible apply iteF
          | with_reducible apply R.notT
          | with_reducible apply R.notF
          | ((with_reducible apply SqT.of); with_reducible assumption)
          | ((with_reducible apply SqL.of); with_reducible assumption)
          | ((with_reducible apply same_seqT); with_reducible assumption)
          | ((with_reducible apply sameB); with_reducible assumption)
          | ((with_reducible apply same_at); with_reducible assumption)
          | ((with_reducible apply kp_seqT); with_reducible assumption)
          | ((with_reducible apply Same.seq); with_reducible assumption)
          | ((with_reducible apply Kp.seqL); with_reducible assumption)
          | ((with_reducible apply fresh_ne); with_reducible assumption)
          | ((with_reducible apply Dw.same); with_reducible assumption)
          | ((with_reducible apply R.isEq); exact eq_true (by first | decide | omega))
          | ((with_reducible apply R.isLt); first | decide | omega)
          | ((with_reducible apply R.isLtI); first | decide | omega)
          | ((with_reducible apply R.isLeI); first | decide | omega)
          | ((with_reducible apply R.cdiv); exact rfl)
          | ((with_reducible apply R.cpow); exact rfl)
          | with_reducible apply R.cdivX
          | ((with_reducible apply R.isNe); omega)
          | with_reducible apply hU
          | ((with_reducible apply wayNF); first | exact rfl | exact ⟨rfl, rfl⟩ | exact ⟨rfl, rfl, rfl⟩ | exact ⟨rfl, rfl, rfl, rfl⟩)
          | with_reducible apply R.bm
          | ((with_reducible apply R.bmT); (focus ((first | with_reducible assumption | ((with_reducible apply same_at); with_reducible assumption) | ((with_reducible apply kp_at); with_reducible assumption)); done)))
          | with_reducible apply R.dput
          | with_reducible apply R.dget
          | with_reducible apply R.din
          | with_reducible apply R.dget2
          | with_reducible apply R.forE
          | with_reducible apply R.rng1
          | with_reducible apply R.rng2
          | with_reducible apply R.rg1
          | with_reducible apply R.rg2
          | with_reducible apply R.lcE
          | with_reducible apply R.itup
          | with_reducible apply R.ilst
          )
        refine wayNF e3 ?_
        repeat' (first
          | with_reducible apply R.var
          | with_reducible apply R.gsE
          | ((with_reducible apply R.gsN); (focus exact rfl))
          | with_reducible apply R.lenS
          | ((with_reducible apply R.lenB); exact rfl)
          | ((with_reducible apply R.isEq); exact rfl)
          | with_reducible apply R.op
          | with_reducible apply R.i2
          | with_reducible apply R.i0
          | with_reducible apply R.con
          | with_reducible apply R.cons
          | with_reducible apply R.nil
          | with_reducible apply R.gcons
          | with_reducible apply R.gname
          | ((with_reducible apply R.ixT); (focus ((repeat' (first | with_reducible assumption | with_reducible apply hU | ((with_reducible apply SqT.of); with_reducible assumption) | ((with_reducible apply same_seqT); with_reducible assumption) | ((with_reducible apply kp_seqT); with_reducible assumption) | ((with_reducible apply Dw.same); with_reducible assumption))); done)); exact rfl)
          | ((with_reducible apply R.ixL); (focus ((repeat' (first | with_reducible assumption | ((with_reducible apply SqL.of); with_reducible assumption) | ((with_reducible apply Same.seq); with_reducible assumption) | ((with_reducible apply Kp.seqL); with_reducible assumption) | ((with_reducible apply fresh_ne); with_reducible assumption) | ((with_reducible apply Dw.same); with_reducible assumption))); done)); exact rfl)
          | with_reducible assumption
          | with_reducible apply Bd.mulW
          | with_reducible apply Bd.mul
          | with_reducible apply Bd.add
          | with_reducible apply Bd.sub
          | ((with_reducible apply Bd.l8); exact eq_true (by decide))
          | ((with_reducible apply Bd.lit); exact eq_true (by decide))
          | with_reducible apply Bd.neg
          | with_reducible apply Bd.div
          | with_reducible apply Bd.abs
          | with_reducible apply Bd.mod
          | with_reducible apply Bd.fdiv
          | ((with_reducible apply Bd.om); omega)
          | ((with_reducible apply R.isLe); first | decide | omega)
          | with_reducible apply R.un
          | with_reducible apply R.u1
          | with_reducible apply R.tup
          | with_reducible apply R.lst
          | with_reducible apply R.call
          | with_reducible apply R.callB
          | with_reducible apply R.gtup
          | with_reducible apply R.gnil
          | with_reducible apply R.seq
          | with_reducible apply R.asg
          | with_reducible apply R.ret
          | with_reducible apply R.brk
          | with_reducible apply R.cont
          | with_reducible apply R.next
          | with_reducible apply R.drop
          | with_reducible apply R.par
          | with_reducible apply R.par2
          | with_reducible apply R.ifs
          | with_reducible apply R.tif
          | with_reducible apply R.test
          | with_reducible apply R.tb'
          | with_reducible apply R.isbl
          | with_reducible apply R.cmp
          | with_reducible apply R.t2i
          | with_reducible apply R.intp
          | with_reducible apply R.and
          | with_reducible apply R.or
          | with_reducible apply R.not
          | with_reducible apply R.andV
          | with_reducible apply R.orV
          | with_reducible apply R.notV
          | with_reducible apply R.chain
          | with_reducible apply R.tupL
          | with_reducible apply R.lstL
          | with_reducible apply R.cat
          | with_reducible apply R.absI
          | with_reducible apply R.intI
          | with_reducible apply R.intB
          | with_reducible apply R.eqS
          | with_reducible apply R.eqBl
          | with_reducible apply R.neBl
          | with_reducible apply R.sl
          | with_reducible apply R.noPart
          | with_reducible apply R.part
          | with_reducible apply R.isInt
          | with_reducible apply R.slL
          | with_reducible apply R.isiT
          | with_reducible apply R.isiLst
          | with_reducible apply R.nwT
          | with_reducible apply R.nwL
          | ((with_reducible apply R.mt); intro HN tn sn nn ht)
          | ((with_reducible apply R.ml); intro HN tn sn nn ht)
          | ((with_reducible apply R.isiTupS); focus ((repeat' (first | with_reducible assumption | with_reducible apply hU | ((with_reducible apply SqT.of); with_reducible assumption) | ((with_reducible apply same_seqT); with_reducible assumption) | ((with_reducible apply kp_seqT); with_reducible assumption) | ((with_reducible apply Dw.same); with_reducible assumption))); done))
          | ((with_reducible apply R.ne4); focus ((repeat' (first | with_reducible assumption | with_reducible apply hU | ((with_reducible apply SqT.of); with_reducible assumption) | ((with_reducible apply same_seqT); with_reducible assumption) | ((with_reducible apply kp_seqT); with_reducible assumption) | ((with_reducible apply Dw.same); with_reducible assumption))); done))
          | ((with_reducible apply R.ne3); focus ((repeat' (first | with_reducible assumption | with_reducible apply hU | ((with_reducible apply SqT.of); with_reducible assumption) | ((with_reducible apply same_seqT); with_reducible assumption) | ((with_reducible apply kp_seqT); with_reducible assumption) | ((with_reducible apply Dw.same); with_reducible assumption))); done))
          | ((with_reducible apply R.ne2); focus ((repeat' (first | with_reducible assumption | with_reducible apply hU | ((with_reducible apply SqT.of); with_reducible assumption) | ((with_reducible apply same_seqT); with_reducible assumption) | ((with_reducible apply kp_seqT); with_reducible assumption) | ((with_reducible apply Dw.same); with_reducible assumption))); done))
          | ((with_reducible apply R.eq4); focus ((repeat' (first | with_reducible assumption | with_reducible apply hU | ((with_reducible apply SqT.of); with_reducible assumption) | ((with_reducible apply same_seqT); with_reducible assumption) | ((with_reducible apply kp_seqT); with_reducible assumption) | ((with_reducible apply Dw.same); with_reducible assumption))); done))
          | ((with_reducible apply R.eq3); focus ((repeat' (first | with_reducible assumption | with_reducible apply hU | ((with_reducible apply SqT.of); with_reducible assumption) | ((with_reducible apply same_seqT); with_reducible assumption) | ((with_reducible apply kp_seqT); with_reducible assumption) | ((with_reducible apply Dw.same); with_reducible assumption))); done))
          | ((with_reducible apply R.eq2); focus ((repeat' (first | with_reducible assumption | with_reducible apply hU | ((with_reducible apply SqT.of); with_reducible assumption) | ((with_reducible apply same_seqT); with_reducible assumption) | ((with_reducible apply kp_seqT); with_reducible assumption) | ((with_reducible apply Dw.same); with_reducible assumption))); done))
          | with_reducible apply uLawNext
          | with_reducible apply uLawWide
          | with_reducible apply uValueAt
          | with_reducible apply uIsSquare
          | ((with_reducible apply R.nw); intro HN tn sn ht)
          | with_reducible apply iteT
          | with_reducible apply iteF
          | with_reducible apply R.notT
          | with_reducible apply R.notF
          | ((with_reducible apply SqT.of); with_reducible assumption)
          | ((with_reducible apply SqL.of); with_reducible assumption)
          | ((with_reducible apply same_seqT); with_reducible assumption)
          | ((with_reducible apply sameB); with_reducible assumption)
          | ((with_reducible apply same_at); with_reducible assumption)
          | ((with_reducible apply kp_seqT); with_reducible assumption)
          | ((with_reducible apply Same.seq); with_reducible assumption)
          | ((with_reducible apply Kp.seqL); with_reducible assumption)
          | ((with_reducible apply fresh_ne); with_reducible assumption)
          | ((with_reducible apply Dw.same); with_reducible assumption)
          | ((with_reducible apply R.isEq); exact eq_true (by first | decide | omega))
          | ((with_reducible apply R.isLt); first | decide | omega)
          | ((with_reducible apply R.isLtI); first | decide | omega)
          | ((with_reducible apply R.isLeI); first | decide | omega)
          | ((with_reducible apply R.cdiv); exact rfl)
          | ((with_reducible apply R.cpow); exact rfl)
          | with_reducible apply R.cdivX
          | ((with_reducible apply R.isNe); omega)
          | with_reducible apply hU
          | ((with_reducible apply wayNF); first | exact rfl | exact ⟨rfl, rfl⟩ | exact ⟨rfl, rfl, rfl⟩ | exact ⟨rfl, rfl, rfl, rfl⟩)
          | with_reducible apply R.bm
          | ((with_reducible apply R.bmT); (focus ((first | with_reducible assumption | ((with_reducible apply same_at); with_reducible assumption) | ((with_reducible apply kp_at); with_reducible assumption)); done)))
          | with_reducible apply R.dput
          | with_reducible apply R.dget
          | with_reducible apply R.din
          | with_reducible apply R.dget2
          | with_reducible apply R.forE
          | with_reducible apply R.rng1
          | with_reducible apply R.rng2
          | with_reducible apply R.rg1
          | with_reducible apply R.rg2
          | with_reducible apply R.lcE
          | with_reducible apply R.itup
          | with_reducible apply R.ilst
          )
        exact ⟨rfl, by (repeat' (first | with_reducible exact Same.refl _ | with_reducible assumption | ((with_reducible apply sameB); with_reducible assumption)))⟩
      · skip
        repeat' (first
          | with_reducible apply R.var
          | with_reducible apply R.gsE
          | ((with_reducible apply R.gsN); (focus exact rfl))
          | with_reducible apply R.lenS
          | ((with_reducible apply R.lenB); exact rfl)
          | ((with_reducible apply R.isEq); exact rfl)
          | with_reducible apply R.op
          | with_reducible apply R.i2
          | with_reducible apply R.i0
          | with_reducible apply R.con
          | with_reducible apply R.cons
          | with_reducible apply R.nil
          | with_reducible apply R.gcons
          | with_reducible apply R.gname
          | ((with_reducible apply R.ixT); (focus ((repeat' (first | with_reducible assumption | with_reducible apply hU | ((with_reducible apply SqT.of); with_reducible assumption) | ((with_reducible apply same_seqT); with_reducible assumption) | ((with_reducible apply kp_seqT); with_reducible assumption) | ((with_reducible apply Dw.same); with_reducible assumption))); done)); exact rfl)
          | ((with_reducible apply R.ixL); (focus ((repeat' (first | with_reducible assumption | ((with_reducible apply SqL.of); with_reducible assumption) | ((with_reducible apply Same.seq); with_reducible assumption) | ((with_reducible apply Kp.seqL); with_reducible assumption) | ((with_reducible apply fresh_ne); with_reducible assumption) | ((with_reducible apply Dw.same); with_reducible assumption))); done)); exact rfl)
          | with_reducible assumption
          | with_reducible apply Bd.mulW
          | with_reducible apply Bd.mul
          | with_reducible apply Bd.add
          | with_reducible apply Bd.sub
          | ((with_reducible apply Bd.l8); exact eq_true (by decide))
          | ((with_reducible apply Bd.lit); exact eq_true (by decide))
          | with_reducible apply Bd.neg
          | with_reducible apply Bd.div
          | with_reducible apply Bd.abs
          | with_reducible apply Bd.mod
          | with_reducible apply Bd.fdiv
          | ((with_reducible apply Bd.om); omega)
          | ((with_reducible apply R.isLe); first | decide | omega)
          | with_reducible apply R.un
          | with_reducible apply R.u1
          | with_reducible apply R.tup
          | with_reducible apply R.lst
          | with_reducible apply R.call
          | with_reducible apply R.callB
          | with_reducible apply R.gtup
          | with_reducible apply R.gnil
          | with_reducible apply R.seq
          | with_reducible apply R.asg
          | with_reducible apply R.ret
          | with_reducible apply R.brk
          | with_reducible apply R.cont
          | with_reducible apply R.next
          | with_reducible apply R.drop
          | with_reducible apply R.par
          | with_reducible apply R.par2
          | with_reducible apply R.ifs
          | with_reducible apply R.tif
          | with_reducible apply R.test
          | with_reducible apply R.tb'
          | with_reducible apply R.isbl
          | with_reducible apply R.cmp
          | with_reducible apply R.t2i
          | with_reducible apply R.intp
          | with_reducible apply R.and
          | with_reducible apply R.or
          | with_reducible apply R.not
          | with_reducible apply R.andV
          | with_reducible apply R.orV
          | with_reducible apply R.notV
          | with_reducible apply R.chain
          | with_reducible apply R.tupL
          | with_reducible apply R.lstL
          | with_reducible apply R.cat
          | with_reducible apply R.absI
          | with_reducible apply R.intI
          | with_reducible apply R.intB
          | with_reducible apply R.eqS
          | with_reducible apply R.eqBl
          | with_reducible apply R.neBl
          | with_reducible apply R.sl
          | with_reducible apply R.noPart
          | with_reducible apply R.part
          | with_reducible apply R.isInt
          | with_reducible apply R.slL
          | with_reducible apply R.isiT
          | with_reducible apply R.isiLst
          | with_reducible apply R.nwT
          | with_reducible apply R.nwL
          | ((with_reducible apply R.mt); intro HN tn sn nn ht)
          | ((with_reducible apply R.ml); intro HN tn sn nn ht)
          | ((with_reducible apply R.isiTupS); focus ((repeat' (first | with_reducible assumption | with_reducible apply hU | ((with_reducible apply SqT.of); with_reducible assumption) | ((with_reducible apply same_seqT); with_reducible assumption) | ((with_reducible apply kp_seqT); with_reducible assumption) | ((with_reducible apply Dw.same); with_reducible assumption))); done))
          | ((with_reducible apply R.ne4); focus ((repeat' (first | with_reducible assumption | with_reducible apply hU | ((with_reducible apply SqT.of); with_reducible assumption) | ((with_reducible apply same_seqT); with_reducible assumption) | ((with_reducible apply kp_seqT); with_reducible assumption) | ((with_reducible apply Dw.same); with_reducible assumption))); done))
          | ((with_reducible apply R.ne3); focus ((repeat' (first | with_reducible assumption | with_reducible apply hU | ((with_reducible apply SqT.of); with_reducible assumption) | ((with_reducible apply same_seqT); with_reducible assumption) | ((with_reducible apply kp_seqT); with_reducible assumption) | ((with_reducible apply Dw.same); with_reducible assumption))); done))
          | ((with_reducible apply R.ne2); focus ((repeat' (first | with_reducible assumption | with_reducible apply hU | ((with_reducible apply SqT.of); with_reducible assumption) | ((with_reducible apply same_seqT); with_reducible assumption) | ((with_reducible apply kp_seqT); with_reducible assumption) | ((with_reducible apply Dw.same); with_reducible assumption))); done))
          | ((with_reducible apply R.eq4); focus ((repeat' (first | with_reducible assumption | with_reducible apply hU | ((with_reducible apply SqT.of); with_reducible assumption) | ((with_reducible apply same_seqT); with_reducible assumption) | ((with_reducible apply kp_seqT); with_reducible assumption) | ((with_reducible apply Dw.same); with_reducible assumption))); done))
          | ((with_reducible apply R.eq3); focus ((repeat' (first | with_reducible assumption | with_reducible apply hU | ((with_reducible apply SqT.of); with_reducible assumption) | ((with_reducible apply same_seqT); with_reducible assumption) | ((with_reducible apply kp_seqT); with_reducible assumption) | ((with_reducible apply Dw.same); with_reducible assumption))); done))
          | ((with_reducible apply R.eq2); focus ((repeat' (first | with_reducible assumption | with_reducible apply hU | ((with_reducible apply SqT.of); with_reducible assumption) | ((with_reducible apply same_seqT); with_reducible assumption) | ((with_reducible apply kp_seqT); with_reducible assumption) | ((with_reducible apply Dw.same); with_reducible assumption))); done))
          | with_reducible apply uLawNext
          | with_reducible apply uLawWide
          | with_reducible apply uValueAt
          | with_reducible apply uIsSquare
          | ((with_reducible apply R.nw); intro HN tn sn ht)
          | with_reducible apply iteT
          | with_reducible apply iteF
          | with_reducible apply R.notT
          | with_reducible apply R.notF
          | ((with_reducible apply SqT.of); with_reducible assumption)
          | ((with_reducible apply SqL.of); with_reducible assumption)
          | ((with_reducible apply same_seqT); with_reducible assumption)
          | ((with_reducible apply sameB); with_reducible assumption)
          | ((with_reducible apply same_at); with_reducible assumption)
          | ((with_reducible apply kp_seqT); with_reducible assumption)
          | ((with_reducible apply Same.seq); with_reducible assumption)
          | ((with_reducible apply Kp.seqL); with_reducible assumption)
          | ((with_reducible apply fresh_ne); with_reducible assumption)
          | ((with_reducible apply Dw.same); with_reducible assumption)
          | ((with_reducible apply R.isEq); exact eq_true (by first | decide | omega))
          | ((with_reducible apply R.isLt); first | decide | omega)
          | ((with_reducible apply R.isLtI); first | decide | omega)
          | ((with_reducible apply R.isLeI); first | decide | omega)
          | ((with_reducible apply R.cdiv); exact rfl)
          | ((with_reducible apply R.cpow); exact rfl)
          | with_reducible apply R.cdivX
          | ((with_reducible apply R.isNe); omega)
          | with_reducible apply hU
          | ((with_reducible apply wayNF); first | exact rfl | exact ⟨rfl, rfl⟩ | exact ⟨rfl, rfl, rfl⟩ | exact ⟨rfl, rfl, rfl, rfl⟩)
          | with_reducible apply R.bm
          | ((with_reducible apply R.bmT); (focus ((first | with_reducible assumption | ((with_reducible apply same_at); with_reducible assumption) | ((with_reducible apply kp_at); with_reducible assumption)); done)))
          | with_reducible apply R.dput
          | with_reducible apply R.dget
          | with_reducible apply R.din
          | with_reducible apply R.dget2
          | with_reducible apply R.forE
          | with_reducible apply R.rng1
          | with_reducible apply R.rng2
          | with_reducible apply R.rg1
          | with_reducible apply R.rg2
          | with_reducible apply R.lcE
          | with_reducible apply R.itup
          | with_reducible apply R.ilst
          )
        exact ⟨rfl, Same.refl _⟩
    obtain ⟨rfl, s22⟩ := hM
    have hD22 := s22 _ _ hD20
    repeat' (first
      | with_reducible apply R.var
      | with_reducible apply R.gsE
      | ((with_reducible apply R.gsN); (focus exact rfl))
      | with_reducible apply R.lenS
      | ((with_reducible apply R.lenB); exact rfl)
      | ((with_reducible apply R.isEq); exact rfl)
      | with_reducible apply R.op
      | with_reducible apply R.i2
      | with_reducible apply R.i0
      | with_reducible apply R.con
      | with_reducible apply R.cons
      | with_reducible apply R.nil
      | with_reducible apply R.gcons
      | with_reducible apply R.gname
      | ((with_reducible apply R.ixT); (focus ((repeat' (first | with_reducible assumption | with_reducible apply hU | ((with_reducible apply SqT.of); with_reducible assumption) | ((with_reducible apply same_seqT); with_reducible assumption) | ((with_reducible apply kp_seqT); with_reducible assumption) | ((with_reducible apply Dw.same); with_reducible assumption))); done)); exact rfl)
      | ((with_reducible apply R.ixL); (focus ((repeat' (first | with_reducible assumption | ((with_reducible apply SqL.of); with_reducible assumption) | ((with_reducible apply Same.seq); with_reducible assumption) | ((with_reducible apply Kp.seqL); with_reducible assumption) | ((with_reducible apply fresh_ne); with_reducible assumption) | ((with_reducible apply Dw.same); with_reducible assumption))); done)); exact rfl)
      | with_reducible assumption
      | with_reducible apply Bd.mulW
      | with_reducible apply Bd.mul
      | with_reducible apply Bd.add
      | with_reducible apply Bd.sub
      | ((with_reducible apply Bd.l8); exact eq_true (by decide))
      | ((with_reducible apply Bd.lit); exact eq_true (by decide))
      | with_reducible apply Bd.neg
      | with_reducible apply Bd.div
      | with_reducible apply Bd.abs
      | with_reducible apply Bd.mod
      | with_reducible apply Bd.fdiv
      | ((with_reducible apply Bd.om); omega)
      | ((with_reducible apply R.isLe); first | decide | omega)
      | with_reducible apply R.un
      | with_reducible apply R.u1
      | with_reducible apply R.tup
      | with_reducible apply R.lst
      | with_reducible apply R.call
      | with_reducible apply R.callB
      | with_reducible apply R.gtup
      | with_reducible apply R.gnil
      | with_reducible apply R.seq
      | with_reducible apply R.asg
      | with_reducible apply R.ret
      | with_reducible apply R.brk
      | with_reducible apply R.cont
      | with_reducible apply R.next
      | with_reducible apply R.drop
      | with_reducible apply R.par
      | with_reducible apply R.par2
      | with_reducible apply R.ifs
      | with_reducible apply R.tif
      | with_reducible apply R.test
      | with_reducible apply R.tb'
      | with_reducible apply R.isbl
      | with_reducible apply R.cmp
      | with_reducible apply R.t2i
      | with_reducible apply R.intp
      | with_reducible apply R.and
      | with_reducible apply R.or
      | with_reducible apply R.not
      | with_reducible apply R.andV
      | with_reducible apply R.orV
      | with_reducible apply R.notV
      | with_reducible apply R.chain
      | with_reducible apply R.tupL
      | with_reducible apply R.lstL
      | with_reducible apply R.cat
      | with_reducible apply R.absI
      | with_reducible apply R.intI
      | with_reducible apply R.intB
      | with_reducible apply R.eqS
      | with_reducible apply R.eqBl
      | with_reducible apply R.neBl
      | with_reducible apply R.sl
      | with_reducible apply R.noPart
      | with_reducible apply R.part
      | with_reducible apply R.isInt
      | with_reducible apply R.slL
      | with_reducible apply R.isiT
      | with_reducible apply R.isiLst
      | with_reducible apply R.nwT
      | with_reducible apply R.nwL
      | ((with_reducible apply R.mt); intro HN tn sn nn ht)
      | ((with_reducible apply R.ml); intro HN tn sn nn ht)
      | ((with_reducible apply R.isiTupS); focus ((repeat' (first | with_reducible assumption | with_reducible apply hU | ((with_reducible apply SqT.of); with_reducible assumption) | ((with_reducible apply same_seqT); with_reducible assumption) | ((with_reducible apply kp_seqT); with_reducible assumption) | ((with_reducible apply Dw.same); with_reducible assumption))); done))
      | ((with_reducible apply R.ne4); focus ((repeat' (first | with_reducible assumption | with_reducible apply hU | ((with_reducible apply SqT.of); with_reducible assumption) | ((with_reducible apply same_seqT); with_reducible assumption) | ((with_reducible apply kp_seqT); with_reducible assumption) | ((with_reducible apply Dw.same); with_reducible assumption))); done))
      | ((with_reducible apply R.ne3); focus ((repeat' (first | with_reducible assumption | with_reducible apply hU | ((with_reducible apply SqT.of); with_reducible assumption) | ((with_reducible apply same_seqT); with_reducible assumption) | ((with_reducible apply kp_seqT); with_reducible assumption) | ((with_reducible apply Dw.same); with_reducible assumption))); done))
      | ((with_reducible apply R.ne2); focus ((repeat' (first | with_reducible assumption | with_reducible apply hU | ((with_reducible apply SqT.of); with_reducible assumption) | ((with_reducible apply same_seqT); with_reducible assumption) | ((with_reducible apply kp_seqT); with_reducible assumption) | ((with_reducible apply Dw.same); with_reducible assumption))); done))
      | ((with_reducible apply R.eq4); focus ((repeat' (first | with_reducible assumption | with_reducible apply hU | ((with_reducible apply SqT.of); with_reducible assumption) | ((with_reducible apply same_seqT); with_reducible assumption) | ((with_reducible apply kp_seqT); with_reducible assumption) | ((with_reducible apply Dw.same); with_reducible assumption))); done))
      | ((with_reducible apply R.eq3); focus ((repeat' (first | with_reducible assumption | with_reducible apply hU | ((with_reducible apply SqT.of); with_reducible assumption) | ((with_reducible apply same_seqT); with_reducible assumption) | ((with_reducible apply kp_seqT); with_reducible assumption) | ((with_reducible apply Dw.same); with_reducible assumption))); done))
      | ((with_reducible apply R.eq2); focus ((repeat' (first | with_reducible assumption | with_reducible apply hU | ((with_reducible apply SqT.of); with_reducible assumption) | ((with_reducible apply same_seqT); with_reducible assumption) | ((with_reducible apply kp_seqT); with_reducible assumption) | ((with_reducible apply Dw.same); with_reducible assumption))); done))
      | with_reducible apply uLawNext
      | with_reducible apply uLawWide
      | with_reducible apply uValueAt
      | with_reducible apply uIsSquare
      | ((with_reducible apply R.nw); intro HN tn sn ht)
      | with_reducible apply iteT
      | with_reducible apply iteF
      | with_reducible apply R.notT
      | with_reducible apply R.notF
      | ((with_reducible apply SqT.of); with_reducible assumption)
      | ((with_reducible apply SqL.of); with_reducible assumption)
      | ((with_reducible apply same_seqT); with_reducible assumption)
      | ((with_reducible apply sameB); with_reducible assumption)
      | ((with_reducible apply same_at); with_reducible assumption)
      | ((with_reducible apply kp_seqT); with_reducible assumption)
      | ((with_reducible apply Same.seq); with_reducible assumption)
      | ((with_reducible apply Kp.seqL); with_reducible assumption)
      | ((with_reducible apply fresh_ne); with_reducible assumption)
      | ((with_reducible apply Dw.same); with_reducible assumption)
      | ((with_reducible apply R.isEq); exact eq_true (by first | decide | omega))
      | ((with_reducible apply R.isLt); first | decide | omega)
      | ((with_reducible apply R.isLtI); first | decide | omega)
      | ((with_reducible apply R.isLeI); first | decide | omega)
      | ((with_reducible apply R.cdiv); exact rfl)
      | ((with_reducible apply R.cpow); exact rfl)
      | with_reducible apply R.cdivX
      | ((with_reducible apply R.isNe); omega)
      | with_reducible apply hU
      | ((with_reducible apply wayNF); first | exact rfl | exact ⟨rfl, rfl⟩ | exact ⟨rfl, rfl, rfl⟩ | exact ⟨rfl, rfl, rfl, rfl⟩)
      | with_reducible apply R.bm
      | ((with_reducible apply R.bmT); (focus ((first | with_reducible assumption | ((with_reducible apply same_at); with_reducible assumption) | ((with_reducible apply kp_at); with_reducible assumption)); done)))
      | with_reducible apply R.dput
      | with_reducible apply R.dget
      | with_reducible apply R.din
      | with_reducible apply R.dget2
      | with_reducible apply R.forE
      | with_reducible apply R.rng1
      | with_reducible apply R.rng2
      | with_reducible apply R.rg1
      | with_reducible apply R.rg2
      | with_reducible apply R.lcE
      | with_reducible apply R.itup
      | with_reducible apply R.ilst
      )
    refine uQuadraticRoots rfl (.inr g0) (by unfold Bd; decide) (bg.mono (by decide)) (by apply bdm; (repeat' (first   | with_reducible apply R.var   | with_reducible apply R.gsE   | ((with_reducible apply R.gsN); (focus exact rfl))   | with_reducible apply R.lenS   | ((with_reducible apply R.lenB); exact rfl)   | ((with_reducible apply R.isEq); exact rfl)   | with_reducible apply R.op   | with_reducible apply R.i2   | with_reducible apply R.i0   | with_reducible apply R.con   | with_reducible apply R.cons   | with_reducible apply R.nil   | with_reducible apply R.gcons   | with_reducible apply R.gname   | ((with_reducible apply R.ixT); (focus ((repeat' (first | with_reducible assumption | with_reducible apply hU | ((with_reducible apply SqT.of); with_reducible assumption) | ((with_reducible apply same_seqT); with_reducible assumption) | ((with_reducible apply kp_seqT); with_reducible assumption) | ((with_reducible apply Dw.same); with_reducible assumption))); done)); exact rfl)   | ((with_reducible apply R.ixL); (focus ((repeat' (first | with_reducible assumption | ((with_reducible apply SqL.of); with_reducible assumption) | ((with_reducible apply Same.seq); with_reducible assumption) | ((with_reducible apply Kp.seqL); with_reducible assumption) | ((with_reducible apply fresh_ne); with_reducible assumption) | ((with_reducible apply Dw.same); with_reducible assumption))); done)); exact rfl)   | with_reducible assumption   | with_reducible apply Bd.mulW   | with_reducible apply Bd.mul   | with_reducible apply Bd.add   | with_reducible apply Bd.sub   | ((with_reducible apply Bd.l8); exact eq_true (by decide))   | ((with_reducible apply Bd.lit); exact eq_true (by decide))   | with_reducible apply Bd.neg   | with_reducible apply Bd.div   | with_reducible apply Bd.abs   | with_reducible apply Bd.mod   | with_reducible apply Bd.fdiv   | ((with_reducible apply Bd.om); omega)   | ((with_reducible apply R.isLe); first | decide | omega)   | with_reducible apply R.un   | with_reducible apply R.u1   | with_reducible apply R.tup   | with_reducible apply R.lst   | with_reducible apply R.call   | with_reducible apply R.callB   | with_reducible apply R.gtup   | with_reducible apply R.gnil   | with_reducible apply R.seq   | with_reducible apply R.asg   | with_reducible apply R.ret   | with_reducible apply R.brk   | with_reducible apply R.cont   | with_reducible apply R.next   | with_reducible apply R.drop   | with_reducible apply R.par   | with_reducible apply R.par2   | with_reducible apply R.ifs   | with_reducible apply R.tif   | with_reducible apply R.test   | with_reducible apply R.tb'   | with_reducible apply R.isbl   | with_reducible apply R.cmp   | with_reducible apply R.t2i   | with_reducible apply R.intp   | with_reducible apply R.and   | with_reducible apply R.or   | with_reducible apply R.not   | with_reducible apply R.andV   | with_reducible apply R.orV   | with_reducible apply R.notV   | with_reducible apply R.chain   | with_reducible apply R.tupL   | with_reducible apply R.lstL   | with_reducible apply R.cat   | with_reducible apply R.absI   | with_reducible apply R.intI   | with_reducible apply R.intB   | with_reducible apply R.eqS   | with_reducible apply R.eqBl   | with_reducible apply R.neBl   | with_reducible apply R.sl   | with_reducible apply R.noPart   | with_reducible apply R.part   | with_reducible apply R.isInt   | with_reducible apply R.slL   | with_reducible apply R.isiT   | with_reducible apply R.isiLst   | with_reducible apply R.nwT   | with_reducible apply R.nwL   | ((with_reducible apply R.mt); intro HN tn sn nn ht)   | ((with_reducible apply R.ml); intro HN tn sn nn ht)   | ((with_reducible apply R.isiTupS); focus ((repeat' (first | with_reducible assumption | with_reducible apply hU | ((with_reducible apply SqT.of); with_reducible assumption) | ((with_reducible apply same_seqT); with_reducible assumption) | ((with_reducible apply kp_seqT); with_reducible assumption) | ((with_reducible apply Dw.same); with_reducible assumption))); done))   | ((with_reducible apply R.ne4); focus ((repeat' (first | with_reducible assumption | with_reducible apply hU | ((with_reducible apply SqT.of); with_reducible assumption) | ((with_reducible apply same_seqT); with_reducible assumption) | ((with_reducible apply kp_seqT); with_reducible assumption) | ((with_reducible apply Dw.same); with_reducible assumption))); done))   | ((with_reducible apply R.ne3); focus ((repeat' (first | with_reducible assumption | with_reducible apply hU | ((with_reducible apply SqT.of); with_reducible assumption) | ((with_reducible apply same_seqT); with_reducible assumption) | ((with_reducible apply kp_seqT); with_reducible assumption) | ((with_reducible apply Dw.same); with_reducible assumption))); done))   | ((with_reducible apply R.ne2); focus ((repeat' (first | with_reducible assumption | with_reducible apply hU | ((with_reducible apply SqT.of); with_reducible assumption) | ((with_reducible apply same_seqT); with_reducible assumption) | ((with_reducible apply kp_seqT); with_reducible assumption) | ((with_reducible apply Dw.same); with_reducible assumption))); done))   | ((with_reducible apply R.eq4); focus ((repeat' (first | with_reducible assumption | with_reducible apply hU | ((with_reducible apply SqT.of); with_reducible assumption) | ((with_reducible apply same_seqT); with_reducible assumption) | ((with_reducible apply kp_seqT); with_reducible assumption) | ((with_reducible apply Dw.same); with_reducible assumption))); done))   | ((with_reducible apply R.eq3); focus ((repeat' (first | with_reducible assumption | with_reducible apply hU | ((with_reducible apply SqT.of); with_reducible assumption) | ((with_reducible apply same_seqT); with_reducible assumption) | ((with_reducible apply kp_seqT); with_reducible assumption) | ((with_reducible apply Dw.same); with_reducible assumption))); done))   | ((with_reducible apply R.eq2); focus ((repeat' (first | with_reducible assumption | with_reducible apply hU | ((with_reducible apply SqT.of); with_reducible assumption) | ((with_reducible apply same_seqT); with_reducible assumption) | ((with_reducible apply kp_seqT); with_reducible assumption) | ((with_reducible apply Dw.same); with_reducible assumption))); done))   | with_reducible apply uLawNext   | with_reducible apply uLawWide   | with_reducible apply uValueAt   | with_reducible apply uIsSquare   | ((with_reducible apply R.nw); intro HN tn sn ht)   | with_reducible apply iteT   | with_reducible apply iteF   | with_reducible apply R.notT   | with_reducible apply R.notF   | ((with_reducible apply SqT.of); with_reducible assumption)   | ((with_reducible apply SqL.of); with_reducible assumption)   | ((with_reducible apply same_seqT); with_reducible assumption)   | ((with_reducible apply sameB); with_reducible assumption)   | ((with_reducible apply same_at); with_reducible assumption)   | ((with_reducible apply kp_seqT); with_reducible assumption)   | ((with_reducible apply Same.seq); with_reducible assumption)   | ((with_reducible apply Kp.seqL); with_reducible assumption)   | ((with_reducible apply fresh_ne); with_reducible assumption)   | ((with_reducible apply Dw.same); with_reducible assumption)   | ((with_reducible apply R.isEq); exact eq_true (by first | decide | omega))   | ((with_reducible apply R.isLt); first | decide | omega)   | ((with_reducible apply R.isLtI); first | decide | omega)   | ((with_reducible apply R.isLeI); first | decide | omega)   | ((with_reducible apply R.cdiv); exact rfl)   | ((with_reducible apply R.cpow); exact rfl)   | with_reducible apply R.cdivX   | ((with_reducible apply R.isNe); omega)   | with_reducible apply hU   | ((with_reducible apply wayNF); first | exact rfl | exact ⟨rfl, rfl⟩ | exact ⟨rfl, rfl, rfl⟩ | exact ⟨rfl, rfl, rfl, rfl⟩)   | with_reducible apply R.bm   | ((with_reducible apply R.bmT); (focus ((first | with_reducible assumption | ((with_reducible apply same_at); with_reducible assumption) | ((with_reducible apply kp_at); with_reducible assumption)); done)))   | with_reducible apply R.dput   | with_reducible apply R.dget   | with_reducible apply R.din   | with_reducible apply R.dget2   | with_reducible apply R.forE   | with_reducible apply R.rng1   | with_reducible apply R.rng2   | with_reducible apply R.rg1   | with_reducible apply R.rg2   | with_reducible apply R.lcE   | with_reducible apply R.itup   | with_reducible apply R.ilst   ))) ?_
    intro H23 Ld ts4 s23 n23 h23 R4 l4
    have e4 : ts4 = [far] := lt_ext R4.1 (by simp) (fun x => by
      rw [R4.2, quad_lin g0]
      simp)
    repeat' (first
      | with_reducible apply R.var
      | with_reducible apply R.gsE
      | ((with_reducible apply R.gsN); (focus exact rfl))
      | with_reducible apply R.lenS
      | ((with_reducible apply R.lenB); exact rfl)
      | ((with_reducible apply R.isEq); exact rfl)
      | with_reducible apply R.op
      | with_reducible apply R.i2
      | with_reducible apply R.i0
      | with_reducible apply R.con
      | with_reducible apply R.cons
      | with_reducible apply R.nil
      | with_reducible apply R.gcons
      | with_reducible apply R.gname
      | ((with_reducible apply R.ixT); (focus ((repeat' (first | with_reducible assumption | with_reducible apply hU | ((with_reducible apply SqT.of); with_reducible assumption) | ((with_reducible apply same_seqT); with_reducible assumption) | ((with_reducible apply kp_seqT); with_reducible assumption) | ((with_reducible apply Dw.same); with_reducible assumption))); done)); exact rfl)
      | ((with_reducible apply R.ixL); (focus ((repeat' (first | with_reducible assumption | ((with_reducible apply SqL.of); with_reducible assumption) | ((with_reducible apply Same.seq); with_reducible assumption) | ((with_reducible apply Kp.seqL); with_reducible assumption) | ((with_reducible apply fresh_ne); with_reducible assumption) | ((with_reducible apply Dw.same); with_reducible assumption))); done)); exact rfl)
      | with_reducible assumption
      | with_reducible apply Bd.mulW
      | with_reducible apply Bd.mul
      | with_reducible apply Bd.add
      | with_reducible apply Bd.sub
      | ((with_reducible apply Bd.l8); exact eq_true (by decide))
      | ((with_reducible apply Bd.lit); exact eq_true (by decide))
      | with_reducible apply Bd.neg
      | with_reducible apply Bd.div
      | with_reducible apply Bd.abs
      | with_reducible apply Bd.mod
      | with_reducible apply Bd.fdiv
      | ((with_reducible apply Bd.om); omega)
      | ((with_reducible apply R.isLe); first | decide | omega)
      | with_reducible apply R.un
      | with_reducible apply R.u1
      | with_reducible apply R.tup
      | with_reducible apply R.lst
      | with_reducible apply R.call
      | with_reducible apply R.callB
      | with_reducible apply R.gtup
      | with_reducible apply R.gnil
      | with_reducible apply R.seq
      | with_reducible apply R.asg
      | with_reducible apply R.ret
      | with_reducible apply R.brk
      | with_reducible apply R.cont
      | with_reducible apply R.next
      | with_reducible apply R.drop
      | with_reducible apply R.par
      | with_reducible apply R.par2
      | with_reducible apply R.ifs
      | with_reducible apply R.tif
      | with_reducible apply R.test
      | with_reducible apply R.tb'
      | with_reducible apply R.isbl
      | with_reducible apply R.cmp
      | with_reducible apply R.t2i
      | with_reducible apply R.intp
      | with_reducible apply R.and
      | with_reducible apply R.or
      | with_reducible apply R.not
      | with_reducible apply R.andV
      | with_reducible apply R.orV
      | with_reducible apply R.notV
      | with_reducible apply R.chain
      | with_reducible apply R.tupL
      | with_reducible apply R.lstL
      | with_reducible apply R.cat
      | with_reducible apply R.absI
      | with_reducible apply R.intI
      | with_reducible apply R.intB
      | with_reducible apply R.eqS
      | with_reducible apply R.eqBl
      | with_reducible apply R.neBl
      | with_reducible apply R.sl
      | with_reducible apply R.noPart
      | with_reducible apply R.part
      | with_reducible apply R.isInt
      | with_reducible apply R.slL
      | with_reducible apply R.isiT
      | with_reducible apply R.isiLst
      | with_reducible apply R.nwT
      | with_reducible apply R.nwL
      | ((with_reducible apply R.mt); intro HN tn sn nn ht)
      | ((with_reducible apply R.ml); intro HN tn sn nn ht)
      | ((with_reducible apply R.isiTupS); focus ((repeat' (first | with_reducible assumption | with_reducible apply hU | ((with_reducible apply SqT.of); with_reducible assumption) | ((with_reducible apply same_seqT); with_reducible assumption) | ((with_reducible apply kp_seqT); with_reducible assumption) | ((with_reducible apply Dw.same); with_reducible assumption))); done))
      | ((with_reducible apply R.ne4); focus ((repeat' (first | with_reducible assumption | with_reducible apply hU | ((with_reducible apply SqT.of); with_reducible assumption) | ((with_reducible apply same_seqT); with_reducible assumption) | ((with_reducible apply kp_seqT); with_reducible assumption) | ((with_reducible apply Dw.same); with_reducible assumption))); done))
      | ((with_reducible apply R.ne3); focus ((repeat' (first | with_reducible assumption | with_reducible apply hU | ((with_reducible apply SqT.of); with_reducible assumption) | ((with_reducible apply same_seqT); with_reducible assumption) | ((with_reducible apply kp_seqT); with_reducible assumption) | ((with_reducible apply Dw.same); with_reducible assumption))); done))
      | ((with_reducible apply R.ne2); focus ((repeat' (first | with_reducible assumption | with_reducible apply hU | ((with_reducible apply SqT.of); with_reducible assumption) | ((with_reducible apply same_seqT); with_reducible assumption) | ((with_reducible apply kp_seqT); with_reducible assumption) | ((with_reducible apply Dw.same); with_reducible assumption))); done))
      | ((with_reducible apply R.eq4); focus ((repeat' (first | with_reducible assumption | with_reducible apply hU | ((with_reducible apply SqT.of); with_reducible assumption) | ((with_reducible apply same_seqT); with_reducible assumption) | ((with_reducible apply kp_seqT); with_reducible assumption) | ((with_reducible apply Dw.same); with_reducible assumption))); done))
      | ((with_reducible apply R.eq3); focus ((repeat' (first | with_reducible assumption | with_reducible apply hU | ((with_reducible apply SqT.of); with_reducible assumption) | ((with_reducible apply same_seqT); with_reducible assumption) | ((with_reducible apply kp_seqT); with_reducible assumption) | ((with_reducible apply Dw.same); with_reducible assumption))); done))
      | ((with_reducible apply R.eq2); focus ((repeat' (first | with_reducible assumption | with_reducible apply hU | ((with_reducible apply SqT.of); with_reducible assumption) | ((with_reducible apply same_seqT); with_reducible assumption) | ((with_reducible apply kp_seqT); with_reducible assumption) | ((with_reducible apply Dw.same); with_reducible assumption))); done))
      | with_reducible apply uLawNext
      | with_reducible apply uLawWide
      | with_reducible apply uValueAt
      | with_reducible apply uIsSquare
      | ((with_reducible apply R.nw); intro HN tn sn ht)
      | with_reducible apply iteT
      | with_reducible apply iteF
      | with_reducible apply R.notT
      | with_reducible apply R.notF
      | ((with_reducible apply SqT.of); with_reducible assumption)
      | ((with_reducible apply SqL.of); with_reducible assumption)
      | ((with_reducible apply same_seqT); with_reducible assumption)
      | ((with_reducible apply sameB); with_reducible assumption)
      | ((with_reducible apply same_at); with_reducible assumption)
      | ((with_reducible apply kp_seqT); with_reducible assumption)
      | ((with_reducible apply Same.seq); with_reducible assumption)
      | ((with_reducible apply Kp.seqL); with_reducible assumption)
      | ((with_reducible apply fresh_ne); with_reducible assumption)
      | ((with_reducible apply Dw.same); with_reducible assumption)
      | ((with_reducible apply R.isEq); exact eq_true (by first | decide | omega))
      | ((with_reducible apply R.isLt); first | decide | omega)
      | ((with_reducible apply R.isLtI); first | decide | omega)
      | ((with_reducible apply R.isLeI); first | decide | omega)
      | ((with_reducible apply R.cdiv); exact rfl)
      | ((with_reducible apply R.cpow); exact rfl)
      | with_reducible apply R.cdivX
      | ((with_reducible apply R.isNe); omega)
      | with_reducible apply hU
      | ((with_reducible apply wayNF); first | exact rfl | exact ⟨rfl, rfl⟩ | exact ⟨rfl, rfl, rfl⟩ | exact ⟨rfl, rfl, rfl, rfl⟩)
      | with_reducible apply R.bm
      | ((with_reducible apply R.bmT); (focus ((first | with_reducible assumption | ((with_reducible apply same_at); with_reducible assumption) | ((with_reducible apply kp_at); with_reducible assumption)); done)))
      | with_reducible apply R.dput
      | with_reducible apply R.dget
      | with_reducible apply R.din
      | with_reducible apply R.dget2
      | with_reducible apply R.forE
      | with_reducible apply R.rng1
      | with_reducible apply R.rng2
      | with_reducible apply R.rg1
      | with_reducible apply R.rg2
      | with_reducible apply R.lcE
      | with_reducible apply R.itup
      | with_reducible apply R.ilst
      )
    refine R.neInts (ns := ts4) (ms := [far]) (SqL.of (sn _ _ h23)) (SqL.of ht) ?_
    repeat' (first
      | with_reducible apply R.var
      | with_reducible apply R.gsE
      | ((with_reducible apply R.gsN); (focus exact rfl))
      | with_reducible apply R.lenS
      | ((with_reducible apply R.lenB); exact rfl)
      | ((with_reducible apply R.isEq); exact rfl)
      | with_reducible apply R.op
      | with_reducible apply R.i2
      | with_reducible apply R.i0
      | with_reducible apply R.con
      | with_reducible apply R.cons
      | with_reducible apply R.nil
      | with_reducible apply R.gcons
      | with_reducible apply R.gname
      | ((with_reducible apply R.ixT); (focus ((repeat' (first | with_reducible assumption | with_reducible apply hU | ((with_reducible apply SqT.of); with_reducible assumption) | ((with_reducible apply same_seqT); with_reducible assumption) | ((with_reducible apply kp_seqT); with_reducible assumption) | ((with_reducible apply Dw.same); with_reducible assumption))); done)); exact rfl)
      | ((with_reducible apply R.ixL); (focus ((repeat' (first | with_reducible assumption | ((with_reducible apply SqL.of); with_reducible assumption) | ((with_reducible apply Same.seq); with_reducible assumption) | ((with_reducible apply Kp.seqL); with_reducible assumption) | ((with_reducible apply fresh_ne); with_reducible assumption) | ((with_reducible apply Dw.same); with_reducible assumption))); done)); exact rfl)
      | with_reducible assumption
      | with_reducible apply Bd.mulW
      | with_reducible apply Bd.mul
      | with_reducible apply Bd.add
      | with_reducible apply Bd.sub
      | ((with_reducible apply Bd.l8); exact eq_true (by decide))
      | ((with_reducible apply Bd.lit); exact eq_true (by decide))
      | with_reducible apply Bd.neg
      | with_reducible apply Bd.div
      | with_reducible apply Bd.abs
      | with_reducible apply Bd.mod
      | with_reducible apply Bd.fdiv
      | ((with_reducible apply Bd.om); omega)
      | ((with_reducible apply R.isLe); first | decide | omega)
      | with_reducible apply R.un
      | with_reducible apply R.u1
      | with_reducible apply R.tup
      | with_reducible apply R.lst
      | with_reducible apply R.call
      | with_reducible apply R.callB
      | with_reducible apply R.gtup
      | with_reducible apply R.gnil
      | with_reducible apply R.seq
      | with_reducible apply R.asg
      | with_reducible apply R.ret
      | with_reducible apply R.brk
      | with_reducible apply R.cont
      | with_reducible apply R.next
      | with_reducible apply R.drop
      | with_reducible apply R.par
      | with_reducible apply R.par2
      | with_reducible apply R.ifs
      | with_reducible apply R.tif
      | with_reducible apply R.test
      | with_reducible apply R.tb'
      | with_reducible apply R.isbl
      | with_reducible apply R.cmp
      | with_reducible apply R.t2i
      | with_reducible apply R.intp
      | with_reducible apply R.and
      | with_reducible apply R.or
      | with_reducible apply R.not
      | with_reducible apply R.andV
      | with_reducible apply R.orV
      | with_reducible apply R.notV
      | with_reducible apply R.chain
      | with_reducible apply R.tupL
      | with_reducible apply R.lstL
      | with_reducible apply R.cat
      | with_reducible apply R.absI
      | with_reducible apply R.intI
      | with_reducible apply R.intB
      | with_reducible apply R.eqS
      | with_reducible apply R.eqBl
      | with_reducible apply R.neBl
      | with_reducible apply R.sl
      | with_reducible apply R.noPart
      | with_reducible apply R.part
      | with_reducible apply R.isInt
      | with_reducible apply R.slL
      | with_reducible apply R.isiT
      | with_reducible apply R.isiLst
      | with_reducible apply R.nwT
      | with_reducible apply R.nwL
      | ((with_reducible apply R.mt); intro HN tn sn nn ht)
      | ((with_reducible apply R.ml); intro HN tn sn nn ht)
      | ((with_reducible apply R.isiTupS); focus ((repeat' (first | with_reducible assumption | with_reducible apply hU | ((with_reducible apply SqT.of); with_reducible assumption) | ((with_reducible apply same_seqT); with_reducible assumption) | ((with_reducible apply kp_seqT); with_reducible assumption) | ((with_reducible apply Dw.same); with_reducible assumption))); done))
      | ((with_reducible apply R.ne4); focus ((repeat' (first | with_reducible assumption | with_reducible apply hU | ((with_reducible apply SqT.of); with_reducible assumption) | ((with_reducible apply same_seqT); with_reducible assumption) | ((with_reducible apply kp_seqT); with_reducible assumption) | ((with_reducible apply Dw.same); with_reducible assumption))); done))
      | ((with_reducible apply R.ne3); focus ((repeat' (first | with_reducible assumption | with_reducible apply hU | ((with_reducible apply SqT.of); with_reducible assumption) | ((with_reducible apply same_seqT); with_reducible assumption) | ((with_reducible apply kp_seqT); with_reducible assumption) | ((with_reducible apply Dw.same); with_reducible assumption))); done))
      | ((with_reducible apply R.ne2); focus ((repeat' (first | with_reducible assumption | with_reducible apply hU | ((with_reducible apply SqT.of); with_reducible assumption) | ((with_reducible apply same_seqT); with_reducible assumption) | ((with_reducible apply kp_seqT); with_reducible assumption) | ((with_reducible apply Dw.same); with_reducible assumption))); done))
      | ((with_reducible apply R.eq4); focus ((repeat' (first | with_reducible assumption | with_reducible apply hU | ((with_reducible apply SqT.of); with_reducible assumption) | ((with_reducible apply same_seqT); with_reducible assumption) | ((with_reducible apply kp_seqT); with_reducible assumption) | ((with_reducible apply Dw.same); with_reducible assumption))); done))
      | ((with_reducible apply R.eq3); focus ((repeat' (first | with_reducible assumption | with_reducible apply hU | ((with_reducible apply SqT.of); with_reducible assumption) | ((with_reducible apply same_seqT); with_reducible assumption) | ((with_reducible apply kp_seqT); with_reducible assumption) | ((with_reducible apply Dw.same); with_reducible assumption))); done))
      | ((with_reducible apply R.eq2); focus ((repeat' (first | with_reducible assumption | with_reducible apply hU | ((with_reducible apply SqT.of); with_reducible assumption) | ((with_reducible apply same_seqT); with_reducible assumption) | ((with_reducible apply kp_seqT); with_reducible assumption) | ((with_reducible apply Dw.same); with_reducible assumption))); done))
      | with_reducible apply uLawNext
      | with_reducible apply uLawWide
      | with_reducible apply uValueAt
      | with_reducible apply uIsSquare
      | ((with_reducible apply R.nw); intro HN tn sn ht)
      | with_reducible apply iteT
      | with_reducible apply iteF
      | with_reducible apply R.notT
      | with_reducible apply R.notF
      | ((with_reducible apply SqT.of); with_reducible assumption)
      | ((with_reducible apply SqL.of); with_reducible assumption)
      | ((with_reducible apply same_seqT); with_reducible assumption)
      | ((with_reducible apply sameB); with_reducible assumption)
      | ((with_reducible apply same_at); with_reducible assumption)
      | ((with_reducible apply kp_seqT); with_reducible assumption)
      | ((with_reducible apply Same.seq); with_reducible assumption)
      | ((with_reducible apply Kp.seqL); with_reducible assumption)
      | ((with_reducible apply fresh_ne); with_reducible assumption)
      | ((with_reducible apply Dw.same); with_reducible assumption)
      | ((with_reducible apply R.isEq); exact eq_true (by first | decide | omega))
      | ((with_reducible apply R.isLt); first | decide | omega)
      | ((with_reducible apply R.isLtI); first | decide | omega)
      | ((with_reducible apply R.isLeI); first | decide | omega)
      | ((with_reducible apply R.cdiv); exact rfl)
      | ((with_reducible apply R.cpow); exact rfl)
      | with_reducible apply R.cdivX
      | ((with_reducible apply R.isNe); omega)
      | with_reducible apply hU
      | ((with_reducible apply wayNF); first | exact rfl | exact ⟨rfl, rfl⟩ | exact ⟨rfl, rfl, rfl⟩ | exact ⟨rfl, rfl, rfl, rfl⟩)
      | with_reducible apply R.bm
      | ((with_reducible apply R.bmT); (focus ((first | with_reducible assumption | ((with_reducible apply same_at); with_reducible assumption) | ((with_reducible apply kp_at); with_reducible assumption)); done)))
      | with_reducible apply R.dput
      | with_reducible apply R.dget
      | with_reducible apply R.din
      | with_reducible apply R.dget2
      | with_reducible apply R.forE
      | with_reducible apply R.rng1
      | with_reducible apply R.rng2
      | with_reducible apply R.rg1
      | with_reducible apply R.rg2
      | with_reducible apply R.lcE
      | with_reducible apply R.itup
      | with_reducible apply R.ilst
      )
    refine wayNF e4 ?_
    have hD24 := sn _ _ (s23 _ _ hD22)
    repeat' (first
      | with_reducible apply R.var
      | with_reducible apply R.gsE
      | ((with_reducible apply R.gsN); (focus exact rfl))
      | with_reducible apply R.lenS
      | ((with_reducible apply R.lenB); exact rfl)
      | ((with_reducible apply R.isEq); exact rfl)
      | with_reducible apply R.op
      | with_reducible apply R.i2
      | with_reducible apply R.i0
      | with_reducible apply R.con
      | with_reducible apply R.cons
      | with_reducible apply R.nil
      | with_reducible apply R.gcons
      | with_reducible apply R.gname
      | ((with_reducible apply R.ixT); (focus ((repeat' (first | with_reducible assumption | with_reducible apply hU | ((with_reducible apply SqT.of); with_reducible assumption) | ((with_reducible apply same_seqT); with_reducible assumption) | ((with_reducible apply kp_seqT); with_reducible assumption) | ((with_reducible apply Dw.same); with_reducible assumption))); done)); exact rfl)
      | ((with_reducible apply R.ixL); (focus ((repeat' (first | with_reducible assumption | ((with_reducible apply SqL.of); with_reducible assumption) | ((with_reducible apply Same.seq); with_reducible assumption) | ((with_reducible apply Kp.seqL); with_reducible assumption) | ((with_reducible apply fresh_ne); with_reducible assumption) | ((with_reducible apply Dw.same); with_reducible assumption))); done)); exact rfl)
      | with_reducible assumption
      | with_reducible apply Bd.mulW
      | with_reducible apply Bd.mul
      | with_reducible apply Bd.add
      | with_reducible apply Bd.sub
      | ((with_reducible apply Bd.l8); exact eq_true (by decide))
      | ((with_reducible apply Bd.lit); exact eq_true (by decide))
      | with_reducible apply Bd.neg
      | with_reducible apply Bd.div
      | with_reducible apply Bd.abs
      | with_reducible apply Bd.mod
      | with_reducible apply Bd.fdiv
      | ((with_reducible apply Bd.om); omega)
      | ((with_reducible apply R.isLe); first | decide | omega)
      | with_reducible apply R.un
      | with_reducible apply R.u1
      | with_reducible apply R.tup
      | with_reducible apply R.lst
      | with_reducible apply R.call
      | with_reducible apply R.callB
      | with_reducible apply R.gtup
      | with_reducible apply R.gnil
      | with_reducible apply R.seq
      | with_reducible apply R.asg
      | with_reducible apply R.ret
      | with_reducible apply R.brk
      | with_reducible apply R.cont
      | with_reducible apply R.next
      | with_reducible apply R.drop
      | with_reducible apply R.par
      | with_reducible apply R.par2
      | with_reducible apply R.ifs
      | with_reducible apply R.tif
      | with_reducible apply R.test
      | with_reducible apply R.tb'
      | with_reducible apply R.isbl
      | with_reducible apply R.cmp
      | with_reducible apply R.t2i
      | with_reducible apply R.intp
      | with_reducible apply R.and
      | with_reducible apply R.or
      | with_reducible apply R.not
      | with_reducible apply R.andV
      | with_reducible apply R.orV
      | with_reducible apply R.notV
      | with_reducible apply R.chain
      | with_reducible apply R.tupL
      | with_reducible apply R.lstL
      | with_reducible apply R.cat
      | with_reducible apply R.absI
      | with_reducible apply R.intI
      | with_reducible apply R.intB
      | with_reducible apply R.eqS
      | with_reducible apply R.eqBl
      | with_reducible apply R.neBl
      | with_reducible apply R.sl
      | with_reducible apply R.noPart
      | with_reducible apply R.part
      | with_reducible apply R.isInt
      | with_reducible apply R.slL
      | with_reducible apply R.isiT
      | with_reducible apply R.isiLst
      | with_reducible apply R.nwT
      | with_reducible apply R.nwL
      | ((with_reducible apply R.mt); intro HN tn sn nn ht)
      | ((with_reducible apply R.ml); intro HN tn sn nn ht)
      | ((with_reducible apply R.isiTupS); focus ((repeat' (first | with_reducible assumption | with_reducible apply hU | ((with_reducible apply SqT.of); with_reducible assumption) | ((with_reducible apply same_seqT); with_reducible assumption) | ((with_reducible apply kp_seqT); with_reducible assumption) | ((with_reducible apply Dw.same); with_reducible assumption))); done))
      | ((with_reducible apply R.ne4); focus ((repeat' (first | with_reducible assumption | with_reducible apply hU | ((with_reducible apply SqT.of); with_reducible assumption) | ((with_reducible apply same_seqT); with_reducible assumption) | ((with_reducible apply kp_seqT); with_reducible assumption) | ((with_reducible apply Dw.same); with_reducible assumption))); done))
      | ((with_reducible apply R.ne3); focus ((repeat' (first | with_reducible assumption | with_reducible apply hU | ((with_reducible apply SqT.of); with_reducible assumption) | ((with_reducible apply same_seqT); with_reducible assumption) | ((with_reducible apply kp_seqT); with_reducible assumption) | ((with_reducible apply Dw.same); with_reducible assumption))); done))
      | ((with_reducible apply R.ne2); focus ((repeat' (first | with_reducible assumption | with_reducible apply hU | ((with_reducible apply SqT.of); with_reducible assumption) | ((with_reducible apply same_seqT); with_reducible assumption) | ((with_reducible apply kp_seqT); with_reducible assumption) | ((with_reducible apply Dw.same); with_reducible assumption))); done))
      | ((with_reducible apply R.eq4); focus ((repeat' (first | with_reducible assumption | with_reducible apply hU | ((with_reducible apply SqT.of); with_reducible assumption) | ((with_reducible apply same_seqT); with_reducible assumption) | ((with_reducible apply kp_seqT); with_reducible assumption) | ((with_reducible apply Dw.same); with_reducible assumption))); done))
      | ((with_reducible apply R.eq3); focus ((repeat' (first | with_reducible assumption | with_reducible apply hU | ((with_reducible apply SqT.of); with_reducible assumption) | ((with_reducible apply same_seqT); with_reducible assumption) | ((with_reducible apply kp_seqT); with_reducible assumption) | ((with_reducible apply Dw.same); with_reducible assumption))); done))
      | ((with_reducible apply R.eq2); focus ((repeat' (first | with_reducible assumption | with_reducible apply hU | ((with_reducible apply SqT.of); with_reducible assumption) | ((with_reducible apply same_seqT); with_reducible assumption) | ((with_reducible apply kp_seqT); with_reducible assumption) | ((with_reducible apply Dw.same); with_reducible assumption))); done))
      | with_reducible apply uLawNext
      | with_reducible apply uLawWide
      | with_reducible apply uValueAt
      | with_reducible apply uIsSquare
      | ((with_reducible apply R.nw); intro HN tn sn ht)
      | with_reducible apply iteT
      | with_reducible apply iteF
      | with_reducible apply R.notT
      | with_reducible apply R.notF
      | ((with_reducible apply SqT.of); with_reducible assumption)
      | ((with_reducible apply SqL.of); with_reducible assumption)
      | ((with_reducible apply same_seqT); with_reducible assumption)
      | ((with_reducible apply sameB); with_reducible assumption)
      | ((with_reducible apply same_at); with_reducible assumption)
      | ((with_reducible apply kp_seqT); with_reducible assumption)
      | ((with_reducible apply Same.seq); with_reducible assumption)
      | ((with_reducible apply Kp.seqL); with_reducible assumption)
      | ((with_reducible apply fresh_ne); with_reducible assumption)
      | ((with_reducible apply Dw.same); with_reducible assumption)
      | ((with_reducible apply R.isEq); exact eq_true (by first | decide | omega))
      | ((with_reducible apply R.isLt); first | decide | omega)
      | ((with_reducible apply R.isLtI); first | decide | omega)
      | ((with_reducible apply R.isLeI); first | decide | omega)
      | ((with_reducible apply R.cdiv); exact rfl)
      | ((with_reducible apply R.cpow); exact rfl)
      | with_reducible apply R.cdivX
      | ((with_reducible apply R.isNe); omega)
      | with_reducible apply hU
      | ((with_reducible apply wayNF); first | exact rfl | exact ⟨rfl, rfl⟩ | exact ⟨rfl, rfl, rfl⟩ | exact ⟨rfl, rfl, rfl, rfl⟩)
      | with_reducible apply R.bm
      | ((with_reducible apply R.bmT); (focus ((first | with_reducible assumption | ((with_reducible apply same_at); with_reducible assumption) | ((with_reducible apply kp_at); with_reducible assumption)); done)))
      | with_reducible apply R.dput
      | with_reducible apply R.dget
      | with_reducible apply R.din
      | with_reducible apply R.dget2
      | with_reducible apply R.forE
      | with_reducible apply R.rng1
      | with_reducible apply R.rng2
      | with_reducible apply R.rg1
      | with_reducible apply R.rg2
      | with_reducible apply R.lcE
      | with_reducible apply R.itup
      | with_reducible apply R.ilst
      )
    refine uQuadraticRoots rfl hab2 (ba.mono (by decide)) (bb.mono (by decide)) (bc.mono (by decide)) ?_
    intro H25 Le ts5 s25 n25 h25 R5 l5
    have e5 := hdue ts5 R5
    repeat' (first
      | with_reducible apply R.var
      | with_reducible apply R.gsE
      | ((with_reducible apply R.gsN); (focus exact rfl))
      | with_reducible apply R.lenS
      | ((with_reducible apply R.lenB); exact rfl)
      | ((with_reducible apply R.isEq); exact rfl)
      | with_reducible apply R.op
      | with_reducible apply R.i2
      | with_reducible apply R.i0
      | with_reducible apply R.con
      | with_reducible apply R.cons
      | with_reducible apply R.nil
      | with_reducible apply R.gcons
      | with_reducible apply R.gname
      | ((with_reducible apply R.ixT); (focus ((repeat' (first | with_reducible assumption | with_reducible apply hU | ((with_reducible apply SqT.of); with_reducible assumption) | ((with_reducible apply same_seqT); with_reducible assumption) | ((with_reducible apply kp_seqT); with_reducible assumption) | ((with_reducible apply Dw.same); with_reducible assumption))); done)); exact rfl)
      | ((with_reducible apply R.ixL); (focus ((repeat' (first | with_reducible assumption | ((with_reducible apply SqL.of); with_reducible assumption) | ((with_reducible apply Same.seq); with_reducible assumption) | ((with_reducible apply Kp.seqL); with_reducible assumption) | ((with_reducible apply fresh_ne); with_reducible assumption) | ((with_reducible apply Dw.same); with_reducible assumption))); done)); exact rfl)
      | with_reducible assumption
      | with_reducible apply Bd.mulW
      | with_reducible apply Bd.mul
      | with_reducible apply Bd.add
      | with_reducible apply Bd.sub
      | ((with_reducible apply Bd.l8); exact eq_true (by decide))
      | ((with_reducible apply Bd.lit); exact eq_true (by decide))
      | with_reducible apply Bd.neg
      | with_reducible apply Bd.div
      | with_reducible apply Bd.abs
      | with_reducible apply Bd.mod
      | with_reducible apply Bd.fdiv
      | ((with_reducible apply Bd.om); omega)
      | ((with_reducible apply R.isLe); first | decide | omega)
      | with_reducible apply R.un
      | with_reducible apply R.u1
      | with_reducible apply R.tup
      | with_reducible apply R.lst
      | with_reducible apply R.call
      | with_reducible apply R.callB
      | with_reducible apply R.gtup
      | with_reducible apply R.gnil
      | with_reducible apply R.seq
      | with_reducible apply R.asg
      | with_reducible apply R.ret
      | with_reducible apply R.brk
      | with_reducible apply R.cont
      | with_reducible apply R.next
      | with_reducible apply R.drop
      | with_reducible apply R.par
      | with_reducible apply R.par2
      | with_reducible apply R.ifs
      | with_reducible apply R.tif
      | with_reducible apply R.test
      | with_reducible apply R.tb'
      | with_reducible apply R.isbl
      | with_reducible apply R.cmp
      | with_reducible apply R.t2i
      | with_reducible apply R.intp
      | with_reducible apply R.and
      | with_reducible apply R.or
      | with_reducible apply R.not
      | with_reducible apply R.andV
      | with_reducible apply R.orV
      | with_reducible apply R.notV
      | with_reducible apply R.chain
      | with_reducible apply R.tupL
      | with_reducible apply R.lstL
      | with_reducible apply R.cat
      | with_reducible apply R.absI
      | with_reducible apply R.intI
      | with_reducible apply R.intB
      | with_reducible apply R.eqS
      | with_reducible apply R.eqBl
      | with_reducible apply R.neBl
      | with_reducible apply R.sl
      | with_reducible apply R.noPart
      | with_reducible apply R.part
      | with_reducible apply R.isInt
      | with_reducible apply R.slL
      | with_reducible apply R.isiT
      | with_reducible apply R.isiLst
      | with_reducible apply R.nwT
      | with_reducible apply R.nwL
      | ((with_reducible apply R.mt); intro HN tn sn nn ht)
      | ((with_reducible apply R.ml); intro HN tn sn nn ht)
      | ((with_reducible apply R.isiTupS); focus ((repeat' (first | with_reducible assumption | with_reducible apply hU | ((with_reducible apply SqT.of); with_reducible assumption) | ((with_reducible apply same_seqT); with_reducible assumption) | ((with_reducible apply kp_seqT); with_reducible assumption) | ((with_reducible apply Dw.same); with_reducible assumption))); done))
      | ((with_reducible apply R.ne4); focus ((repeat' (first | with_reducible assumption | with_reducible apply hU | ((with_reducible apply SqT.of); with_reducible assumption) | ((with_reducible apply same_seqT); with_reducible assumption) | ((with_reducible apply kp_seqT); with_reducible assumption) | ((with_reducible apply Dw.same); with_reducible assumption))); done))
      | ((with_reducible apply R.ne3); focus ((repeat' (first | with_reducible assumption | with_reducible apply hU | ((with_reducible apply SqT.of); with_reducible assumption) | ((with_reducible apply same_seqT); with_reducible assumption) | ((with_reducible apply kp_seqT); with_reducible assumption) | ((with_reducible apply Dw.same); with_reducible assumption))); done))
      | ((with_reducible apply R.ne2); focus ((repeat' (first | with_reducible assumption | with_reducible apply hU | ((with_reducible apply SqT.of); with_reducible assumption) | ((with_reducible apply same_seqT); with_reducible assumption) | ((with_reducible apply kp_seqT); with_reducible assumption) | ((with_reducible apply Dw.same); with_reducible assumption))); done))
      | ((with_reducible apply R.eq4); focus ((repeat' (first | with_reducible assumption | with_reducible apply hU | ((with_reducible apply SqT.of); with_reducible assumption) | ((with_reducible apply same_seqT); with_reducible assumption) | ((with_reducible apply kp_seqT); with_reducible assumption) | ((with_reducible apply Dw.same); with_reducible assumption))); done))
      | ((with_reducible apply R.eq3); focus ((repeat' (first | with_reducible assumption | with_reducible apply hU | ((with_reducible apply SqT.of); with_reducible assumption) | ((with_reducible apply same_seqT); with_reducible assumption) | ((with_reducible apply kp_seqT); with_reducible assumption) | ((with_reducible apply Dw.same); with_reducible assumption))); done))
      | ((with_reducible apply R.eq2); focus ((repeat' (first | with_reducible assumption | with_reducible apply hU | ((with_reducible apply SqT.of); with_reducible assumption) | ((with_reducible apply same_seqT); with_reducible assumption) | ((with_reducible apply kp_seqT); with_reducible assumption) | ((with_reducible apply Dw.same); with_reducible assumption))); done))
      | with_reducible apply uLawNext
      | with_reducible apply uLawWide
      | with_reducible apply uValueAt
      | with_reducible apply uIsSquare
      | ((with_reducible apply R.nw); intro HN tn sn ht)
      | with_reducible apply iteT
      | with_reducible apply iteF
      | with_reducible apply R.notT
      | with_reducible apply R.notF
      | ((with_reducible apply SqT.of); with_reducible assumption)
      | ((with_reducible apply SqL.of); with_reducible assumption)
      | ((with_reducible apply same_seqT); with_reducible assumption)
      | ((with_reducible apply sameB); with_reducible assumption)
      | ((with_reducible apply same_at); with_reducible assumption)
      | ((with_reducible apply kp_seqT); with_reducible assumption)
      | ((with_reducible apply Same.seq); with_reducible assumption)
      | ((with_reducible apply Kp.seqL); with_reducible assumption)
      | ((with_reducible apply fresh_ne); with_reducible assumption)
      | ((with_reducible apply Dw.same); with_reducible assumption)
      | ((with_reducible apply R.isEq); exact eq_true (by first | decide | omega))
      | ((with_reducible apply R.isLt); first | decide | omega)
      | ((with_reducible apply R.isLtI); first | decide | omega)
      | ((with_reducible apply R.isLeI); first | decide | omega)
      | ((with_reducible apply R.cdiv); exact rfl)
      | ((with_reducible apply R.cpow); exact rfl)
      | with_reducible apply R.cdivX
      | ((with_reducible apply R.isNe); omega)
      | with_reducible apply hU
      | ((with_reducible apply wayNF); first | exact rfl | exact ⟨rfl, rfl⟩ | exact ⟨rfl, rfl, rfl⟩ | exact ⟨rfl, rfl, rfl, rfl⟩)
      | with_reducible apply R.bm
      | ((with_reducible apply R.bmT); (focus ((first | with_reducible assumption | ((with_reducible apply same_at); with_reducible assumption) | ((with_reducible apply kp_at); with_reducible assumption)); done)))
      | with_reducible apply R.dput
      | with_reducible apply R.dget
      | with_reducible apply R.din
      | with_reducible apply R.dget2
      | with_reducible apply R.forE
      | with_reducible apply R.rng1
      | with_reducible apply R.rng2
      | with_reducible apply R.rg1
      | with_reducible apply R.rg2
      | with_reducible apply R.lcE
      | with_reducible apply R.itup
      | with_reducible apply R.ilst
      )
    refine R.eqInts (ns := ts5) (ms := due) (SqL.of h25) (SqL.of (s25 _ _ hD24)) ?_
    repeat' (first
      | with_reducible apply R.var
      | with_reducible apply R.gsE
      | ((with_reducible apply R.gsN); (focus exact rfl))
      | with_reducible apply R.lenS
      | ((with_reducible apply R.lenB); exact rfl)
      | ((with_reducible apply R.isEq); exact rfl)
      | with_reducible apply R.op
      | with_reducible apply R.i2
      | with_reducible apply R.i0
      | with_reducible apply R.con
      | with_reducible apply R.cons
      | with_reducible apply R.nil
      | with_reducible apply R.gcons
      | with_reducible apply R.gname
      | ((with_reducible apply R.ixT); (focus ((repeat' (first | with_reducible assumption | with_reducible apply hU | ((with_reducible apply SqT.of); with_reducible assumption) | ((with_reducible apply same_seqT); with_reducible assumption) | ((with_reducible apply kp_seqT); with_reducible assumption) | ((with_reducible apply Dw.same); with_reducible assumption))); done)); exact rfl)
      | ((with_reducible apply R.ixL); (focus ((repeat' (first | with_reducible assumption | ((with_reducible apply SqL.of); with_reducible assumption) | ((with_reducible apply Same.seq); with_reducible assumption) | ((with_reducible apply Kp.seqL); with_reducible assumption) | ((with_reducible apply fresh_ne); with_reducible assumption) | ((with_reducible apply Dw.same); with_reducible assumption))); done)); exact rfl)
      | with_reducible assumption
      | with_reducible apply Bd.mulW
      | with_reducible apply Bd.mul
      | with_reducible apply Bd.add
      | with_reducible apply Bd.sub
      | ((with_reducible apply Bd.l8); exact eq_true (by decide))
      | ((with_reducible apply Bd.lit); exact eq_true (by decide))
      | with_reducible apply Bd.neg
      | with_reducible apply Bd.div
      | with_reducible apply Bd.abs
      | with_reducible apply Bd.mod
      | with_reducible apply Bd.fdiv
      | ((with_reducible apply Bd.om); omega)
      | ((with_reducible apply R.isLe); first | decide | omega)
      | with_reducible apply R.un
      | with_reducible apply R.u1
      | with_reducible apply R.tup
      | with_reducible apply R.lst
      | with_reducible apply R.call
      | with_reducible apply R.callB
      | with_reducible apply R.gtup
      | with_reducible apply R.gnil
      | with_reducible apply R.seq
      | with_reducible apply R.asg
      | with_reducible apply R.ret
      | with_reducible apply R.brk
      | with_reducible apply R.cont
      | with_reducible apply R.next
      | with_reducible apply R.drop
      | with_reducible apply R.par
      | with_reducible apply R.par2
      | with_reducible apply R.ifs
      | with_reducible apply R.tif
      | with_reducible apply R.test
      | with_reducible apply R.tb'
      | with_reducible apply R.isbl
      | with_reducible apply R.cmp
      | with_reducible apply R.t2i
      | with_reducible apply R.intp
      | with_reducible apply R.and
      | with_reducible apply R.or
      | with_reducible apply R.not
      | with_reducible apply R.andV
      | with_reducible apply R.orV
      | with_reducible apply R.notV
      | with_reducible apply R.chain
      | with_reducible apply R.tupL
      | with_reducible apply R.lstL
      | with_reducible apply R.cat
      | with_reducible apply R.absI
      | with_reducible apply R.intI
      | with_reducible apply R.intB
      | with_reducible apply R.eqS
      | with_reducible apply R.eqBl
      | with_reducible apply R.neBl
      | with_reducible apply R.sl
      | with_reducible apply R.noPart
      | with_reducible apply R.part
      | with_reducible apply R.isInt
      | with_reducible apply R.slL
      | with_reducible apply R.isiT
      | with_reducible apply R.isiLst
      | with_reducible apply R.nwT
      | with_reducible apply R.nwL
      | ((with_reducible apply R.mt); intro HN tn sn nn ht)
      | ((with_reducible apply R.ml); intro HN tn sn nn ht)
      | ((with_reducible apply R.isiTupS); focus ((repeat' (first | with_reducible assumption | with_reducible apply hU | ((with_reducible apply SqT.of); with_reducible assumption) | ((with_reducible apply same_seqT); with_reducible assumption) | ((with_reducible apply kp_seqT); with_reducible assumption) | ((with_reducible apply Dw.same); with_reducible assumption))); done))
      | ((with_reducible apply R.ne4); focus ((repeat' (first | with_reducible assumption | with_reducible apply hU | ((with_reducible apply SqT.of); with_reducible assumption) | ((with_reducible apply same_seqT); with_reducible assumption) | ((with_reducible apply kp_seqT); with_reducible assumption) | ((with_reducible apply Dw.same); with_reducible assumption))); done))
      | ((with_reducible apply R.ne3); focus ((repeat' (first | with_reducible assumption | with_reducible apply hU | ((with_reducible apply SqT.of); with_reducible assumption) | ((with_reducible apply same_seqT); with_reducible assumption) | ((with_reducible apply kp_seqT); with_reducible assumption) | ((with_reducible apply Dw.same); with_reducible assumption))); done))
      | ((with_reducible apply R.ne2); focus ((repeat' (first | with_reducible assumption | with_reducible apply hU | ((with_reducible apply SqT.of); with_reducible assumption) | ((with_reducible apply same_seqT); with_reducible assumption) | ((with_reducible apply kp_seqT); with_reducible assumption) | ((with_reducible apply Dw.same); with_reducible assumption))); done))
      | ((with_reducible apply R.eq4); focus ((repeat' (first | with_reducible assumption | with_reducible apply hU | ((with_reducible apply SqT.of); with_reducible assumption) | ((with_reducible apply same_seqT); with_reducible assumption) | ((with_reducible apply kp_seqT); with_reducible assumption) | ((with_reducible apply Dw.same); with_reducible assumption))); done))
      | ((with_reducible apply R.eq3); focus ((repeat' (first | with_reducible assumption | with_reducible apply hU | ((with_reducible apply SqT.of); with_reducible assumption) | ((with_reducible apply same_seqT); with_reducible assumption) | ((with_reducible apply kp_seqT); with_reducible assumption) | ((with_reducible apply Dw.same); with_reducible assumption))); done))
      | ((with_reducible apply R.eq2); focus ((repeat' (first | with_reducible assumption | with_reducible apply hU | ((with_reducible apply SqT.of); with_reducible assumption) | ((with_reducible apply same_seqT); with_reducible assumption) | ((with_reducible apply kp_seqT); with_reducible assumption) | ((with_reducible apply Dw.same); with_reducible assumption))); done))
      | with_reducible apply uLawNext
      | with_reducible apply uLawWide
      | with_reducible apply uValueAt
      | with_reducible apply uIsSquare
      | ((with_reducible apply R.nw); intro HN tn sn ht)
      | with_reducible apply iteT
      | with_reducible apply iteF
      | with_reducible apply R.notT
      | with_reducible apply R.notF
      | ((with_reducible apply SqT.of); with_reducible assumption)
      | ((with_reducible apply SqL.of); with_reducible assumption)
      | ((with_reducible apply same_seqT); with_reducible assumption)
      | ((with_reducible apply sameB); with_reducible assumption)
      | ((with_reducible apply same_at); with_reducible assumption)
      | ((with_reducible apply kp_seqT); with_reducible assumption)
      | ((with_reducible apply Same.seq); with_reducible assumption)
      | ((with_reducible apply Kp.seqL); with_reducible assumption)
      | ((with_reducible apply fresh_ne); with_reducible assumption)
      | ((with_reducible apply Dw.same); with_reducible assumption)
      | ((with_reducible apply R.isEq); exact eq_true (by first | decide | omega))
      | ((with_reducible apply R.isLt); first | decide | omega)
      | ((with_reducible apply R.isLtI); first | decide | omega)
      | ((with_reducible apply R.isLeI); first | decide | omega)
      | ((with_reducible apply R.cdiv); exact rfl)
      | ((with_reducible apply R.cpow); exact rfl)
      | with_reducible apply R.cdivX
      | ((with_reducible apply R.isNe); omega)
      | with_reducible apply hU
      | ((with_reducible apply wayNF); first | exact rfl | exact ⟨rfl, rfl⟩ | exact ⟨rfl, rfl, rfl⟩ | exact ⟨rfl, rfl, rfl, rfl⟩)
      | with_reducible apply R.bm
      | ((with_reducible apply R.bmT); (focus ((first | with_reducible assumption | ((with_reducible apply same_at); with_reducible assumption) | ((with_reducible apply kp_at); with_reducible assumption)); done)))
      | with_reducible apply R.dput
      | with_reducible apply R.dget
      | with_reducible apply R.din
      | with_reducible apply R.dget2
      | with_reducible apply R.forE
      | with_reducible apply R.rng1
      | with_reducible apply R.rng2
      | with_reducible apply R.rg1
      | with_reducible apply R.rg2
      | with_reducible apply R.lcE
      | with_reducible apply R.itup
      | with_reducible apply R.ilst
      )
    refine wayT e5 ?_
    repeat' (first
      | with_reducible apply R.var
      | with_reducible apply R.gsE
      | ((with_reducible apply R.gsN); (focus exact rfl))
      | with_reducible apply R.lenS
      | ((with_reducible apply R.lenB); exact rfl)
      | ((with_reducible apply R.isEq); exact rfl)
      | with_reducible apply R.op
      | with_reducible apply R.i2
      | with_reducible apply R.i0
      | with_reducible apply R.con
      | with_reducible apply R.cons
      | with_reducible apply R.nil
      | with_reducible apply R.gcons
      | with_reducible apply R.gname
      | ((with_reducible apply R.ixT); (focus ((repeat' (first | with_reducible assumption | with_reducible apply hU | ((with_reducible apply SqT.of); with_reducible assumption) | ((with_reducible apply same_seqT); with_reducible assumption) | ((with_reducible apply kp_seqT); with_reducible assumption) | ((with_reducible apply Dw.same); with_reducible assumption))); done)); exact rfl)
      | ((with_reducible apply R.ixL); (focus ((repeat' (first | with_reducible assumption | ((with_reducible apply SqL.of); with_reducible assumption) | ((with_reducible apply Same.seq); with_reducible assumption) | ((with_reducible apply Kp.seqL); with_reducible assumption) | ((with_reducible apply fresh_ne); with_reducible assumption) | ((with_reducible apply Dw.same); with_reducible assumption))); done)); exact rfl)
      | with_reducible assumption
      | with_reducible apply Bd.mulW
      | with_reducible apply Bd.mul
      | with_reducible apply Bd.add
      | with_reducible apply Bd.sub
      | ((with_reducible apply Bd.l8); exact eq_true (by decide))
      | ((with_reducible apply Bd.lit); exact eq_true (by decide))
      | with_reducible apply Bd.neg
      | with_reducible apply Bd.div
      | with_reducible apply Bd.abs
      | with_reducible apply Bd.mod
      | with_reducible apply Bd.fdiv
      | ((with_reducible apply Bd.om); omega)
      | ((with_reducible apply R.isLe); first | decide | omega)
      | with_reducible apply R.un
      | with_reducible apply R.u1
      | with_reducible apply R.tup
      | with_reducible apply R.lst
      | with_reducible apply R.call
      | with_reducible apply R.callB
      | with_reducible apply R.gtup
      | with_reducible apply R.gnil
      | with_reducible apply R.seq
      | with_reducible apply R.asg
      | with_reducible apply R.ret
      | with_reducible apply R.brk
      | with_reducible apply R.cont
      | with_reducible apply R.next
      | with_reducible apply R.drop
      | with_reducible apply R.par
      | with_reducible apply R.par2
      | with_reducible apply R.ifs
      | with_reducible apply R.tif
      | with_reducible apply R.test
      | with_reducible apply R.tb'
      | with_reducible apply R.isbl
      | with_reducible apply R.cmp
      | with_reducible apply R.t2i
      | with_reducible apply R.intp
      | with_reducible apply R.and
      | with_reducible apply R.or
      | with_reducible apply R.not
      | with_reducible apply R.andV
      | with_reducible apply R.orV
      | with_reducible apply R.notV
      | with_reducible apply R.chain
      | with_reducible apply R.tupL
      | with_reducible apply R.lstL
      | with_reducible apply R.cat
      | with_reducible apply R.absI
      | with_reducible apply R.intI
      | with_reducible apply R.intB
      | with_reducible apply R.eqS
      | with_reducible apply R.eqBl
      | with_reducible apply R.neBl
      | with_reducible apply R.sl
      | with_reducible apply R.noPart
      | with_reducible apply R.part
      | with_reducible apply R.isInt
      | with_reducible apply R.slL
      | with_reducible apply R.isiT
      | with_reducible apply R.isiLst
      | with_reducible apply R.nwT
      | with_reducible apply R.nwL
      | ((with_reducible apply R.mt); intro HN tn sn nn ht)
      | ((with_reducible apply R.ml); intro HN tn sn nn ht)
      | ((with_reducible apply R.isiTupS); focus ((repeat' (first | with_reducible assumption | with_reducible apply hU | ((with_reducible apply SqT.of); with_reducible assumption) | ((with_reducible apply same_seqT); with_reducible assumption) | ((with_reducible apply kp_seqT); with_reducible assumption) | ((with_reducible apply Dw.same); with_reducible assumption))); done))
      | ((with_reducible apply R.ne4); focus ((repeat' (first | with_reducible assumption | with_reducible apply hU | ((with_reducible apply SqT.of); with_reducible assumption) | ((with_reducible apply same_seqT); with_reducible assumption) | ((with_reducible apply kp_seqT); with_reducible assumption) | ((with_reducible apply Dw.same); with_reducible assumption))); done))
      | ((with_reducible apply R.ne3); focus ((repeat' (first | with_reducible assumption | with_reducible apply hU | ((with_reducible apply SqT.of); with_reducible assumption) | ((with_reducible apply same_seqT); with_reducible assumption) | ((with_reducible apply kp_seqT); with_reducible assumption) | ((with_reducible apply Dw.same); with_reducible assumption))); done))
      | ((with_reducible apply R.ne2); focus ((repeat' (first | with_reducible assumption | with_reducible apply hU | ((with_reducible apply SqT.of); with_reducible assumption) | ((with_reducible apply same_seqT); with_reducible assumption) | ((with_reducible apply kp_seqT); with_reducible assumption) | ((with_reducible apply Dw.same); with_reducible assumption))); done))
      | ((with_reducible apply R.eq4); focus ((repeat' (first | with_reducible assumption | with_reducible apply hU | ((with_reducible apply SqT.of); with_reducible assumption) | ((with_reducible apply same_seqT); with_reducible assumption) | ((with_reducible apply kp_seqT); with_reducible assumption) | ((with_reducible apply Dw.same); with_reducible assumption))); done))
      | ((with_reducible apply R.eq3); focus ((repeat' (first | with_reducible assumption | with_reducible apply hU | ((with_reducible apply SqT.of); with_reducible assumption) | ((with_reducible apply same_seqT); with_reducible assumption) | ((with_reducible apply kp_seqT); with_reducible assumption) | ((with_reducible apply Dw.same); with_reducible assumption))); done))
      | ((with_reducible apply R.eq2); focus ((repeat' (first | with_reducible assumption | with_reducible apply hU | ((with_reducible apply SqT.of); with_reducible assumption) | ((with_reducible apply same_seqT); with_reducible assumption) | ((with_reducible apply kp_seqT); with_reducible assumption) | ((with_reducible apply Dw.same); with_reducible assumption))); done))
      | with_reducible apply uLawNext
      | with_reducible apply uLawWide
      | with_reducible apply uValueAt
      | with_reducible apply uIsSquare
      | ((with_reducible apply R.nw); intro HN tn sn ht)
      | with_reducible apply iteT
      | with_reducible apply iteF
      | with_reducible apply R.notT
      | with_reducible apply R.notF
      | ((with_reducible apply SqT.of); with_reducible assumption)
      | ((with_reducible apply SqL.of); with_reducible assumption)
      | ((with_reducible apply same_seqT); with_reducible assumption)
      | ((with_reducible apply sameB); with_reducible assumption)
      | ((with_reducible apply same_at); with_reducible assumption)
      | ((with_reducible apply kp_seqT); with_reducible assumption)
      | ((with_reducible apply Same.seq); with_reducible assumption)
      | ((with_reducible apply Kp.seqL); with_reducible assumption)
      | ((with_reducible apply fresh_ne); with_reducible assumption)
      | ((with_reducible apply Dw.same); with_reducible assumption)
      | ((with_reducible apply R.isEq); exact eq_true (by first | decide | omega))
      | ((with_reducible apply R.isLt); first | decide | omega)
      | ((with_reducible apply R.isLtI); first | decide | omega)
      | ((with_reducible apply R.isLeI); first | decide | omega)
      | ((with_reducible apply R.cdiv); exact rfl)
      | ((with_reducible apply R.cpow); exact rfl)
      | with_reducible apply R.cdivX
      | ((with_reducible apply R.isNe); omega)
      | with_reducible apply hU
      | ((with_reducible apply wayNF); first | exact rfl | exact ⟨rfl, rfl⟩ | exact ⟨rfl, rfl, rfl⟩ | exact ⟨rfl, rfl, rfl, rfl⟩)
      | with_reducible apply R.bm
      | ((with_reducible apply R.bmT); (focus ((first | with_reducible assumption | ((with_reducible apply same_at); with_reducible assumption) | ((with_reducible apply kp_at); with_reducible assumption)); done)))
      | with_reducible apply R.dput
      | with_reducible apply R.dget
      | with_reducible apply R.din
      | with_reducible apply R.dget2
      | with_reducible apply R.forE
      | with_reducible apply R.rng1
      | with_reducible apply R.rng2
      | with_reducible apply R.rg1
      | with_reducible apply R.rg2
      | with_reducible apply R.lcE
      | with_reducible apply R.itup
      | with_reducible apply R.ilst
      )
    rw [decide_eq_true rfl]
    exact qq _
end
theorem all_mk {l : PySem.W.OpenLaw} {w : World} {K : PySem.W.Frag} {h : Heap} {mg : Str → Option Value} {f : Addr} (X : K.In h) (G : h.Ns mainGlobals mg) (hfa : mg "law" = some (.ref f))
    {f0 f1 f2 f3 f4 f5 f6 f7 f8 f9 : Addr}
    {od0 an0 od1 an1 od2 an2 od3 an3 od4 an4 od5 an5 od6 an6 od7 an7 od8 an8 od9 an9 : Option Addr} {sl0 sl1 sl2 sl3 sl4 sl5 sl6 sl7 sl8 sl9 : Array (Option Value)}
    {oc0 kV0 dc0 pm0 cd0 ct0 oc1 kV1 dc1 pm1 cd1 ct1 oc2 kV2 dc2 pm2 cd2 ct2 oc3 kV3 dc3 pm3 cd3 ct3 oc4 kV4 dc4 pm4 cd4 ct4 oc5 kV5 dc5 pm5 cd5 ct5 oc6 kV6 dc6 pm6 cd6 ct6 oc7 kV7 dc7 pm7 cd7 ct7 oc8 kV8 dc8 pm8 cd8 ct8 oc9 kV9 dc9 pm9 cd9 ct9 : Value}
    (a0 : PySem.W.nsIn K mainGlobals "floor_root" = some (some (.ref f0))) (l0 : K.lookup f0 = some ⟨oc0, od0, .func (PySem.W.fnOf "floor_root" "floor_root" (defArgs sFloorRoot) (defBody sFloorRoot) (defScope sFloorRoot) .none kV0 dc0 pm0 an0 cd0 ct0), sl0⟩) (c0 : PySem.W.codeIn K cd0 "floor_root" = true) (k0 : PySem.W.keepIn K (.ref f0) = true)
    (a1 : PySem.W.nsIn K mainGlobals "is_square" = some (some (.ref f1))) (l1 : K.lookup f1 = some ⟨oc1, od1, .func (PySem.W.fnOf "is_square" "is_square" (defArgs sIsSquare) (defBody sIsSquare) (defScope sIsSquare) .none kV1 dc1 pm1 an1 cd1 ct1), sl1⟩) (c1 : PySem.W.codeIn K cd1 "is_square" = true) (k1 : PySem.W.keepIn K (.ref f1) = true)
    (a2 : PySem.W.nsIn K mainGlobals "quadratic_roots" = some (some (.ref f2))) (l2 : K.lookup f2 = some ⟨oc2, od2, .func (PySem.W.fnOf "quadratic_roots" "quadratic_roots" (defArgs sQuadraticRoots) (defBody sQuadraticRoots) (defScope sQuadraticRoots) .none kV2 dc2 pm2 an2 cd2 ct2), sl2⟩) (c2 : PySem.W.codeIn K cd2 "quadratic_roots" = true) (k2 : PySem.W.keepIn K (.ref f2) = true)
    (a3 : PySem.W.nsIn K mainGlobals "value_at" = some (some (.ref f3))) (l3 : K.lookup f3 = some ⟨oc3, od3, .func (PySem.W.fnOf "value_at" "value_at" (defArgs sValueAt) (defBody sValueAt) (defScope sValueAt) .none kV3 dc3 pm3 an3 cd3 ct3), sl3⟩) (c3 : PySem.W.codeIn K cd3 "value_at" = true) (k3 : PySem.W.keepIn K (.ref f3) = true)
    (a4 : PySem.W.nsIn K mainGlobals "_law_cell" = some (some (.ref f4))) (l4 : K.lookup f4 = some ⟨oc4, od4, .func (PySem.W.fnOf "_law_cell" "_law_cell" (defArgs sLawCell) (defBody sLawCell) (defScope sLawCell) .none kV4 dc4 pm4 an4 cd4 ct4), sl4⟩) (c4 : PySem.W.codeIn K cd4 "_law_cell" = true) (k4 : PySem.W.keepIn K (.ref f4) = true)
    (a5 : PySem.W.nsIn K mainGlobals "_law_numbers" = some (some (.ref f5))) (l5 : K.lookup f5 = some ⟨oc5, od5, .func (PySem.W.fnOf "_law_numbers" "_law_numbers" (defArgs sLawNumbers) (defBody sLawNumbers) (defScope sLawNumbers) .none kV5 dc5 pm5 an5 cd5 ct5), sl5⟩) (c5 : PySem.W.codeIn K cd5 "_law_numbers" = true) (k5 : PySem.W.keepIn K (.ref f5) = true)
    (a6 : PySem.W.nsIn K mainGlobals "_law_state" = some (some (.ref f6))) (l6 : K.lookup f6 = some ⟨oc6, od6, .func (PySem.W.fnOf "_law_state" "_law_state" (defArgs sLawState) (defBody sLawState) (defScope sLawState) .none kV6 dc6 pm6 an6 cd6 ct6), sl6⟩) (c6 : PySem.W.codeIn K cd6 "_law_state" = true) (k6 : PySem.W.keepIn K (.ref f6) = true)
    (a7 : PySem.W.nsIn K mainGlobals "_law_next" = some (some (.ref f7))) (l7 : K.lookup f7 = some ⟨oc7, od7, .func (PySem.W.fnOf "_law_next" "_law_next" (defArgs sLawNext) (defBody sLawNext) (defScope sLawNext) .none kV7 dc7 pm7 an7 cd7 ct7), sl7⟩) (c7 : PySem.W.codeIn K cd7 "_law_next" = true) (k7 : PySem.W.keepIn K (.ref f7) = true)
    (a8 : PySem.W.nsIn K mainGlobals "_law_wide" = some (some (.ref f8))) (l8 : K.lookup f8 = some ⟨oc8, od8, .func (PySem.W.fnOf "_law_wide" "_law_wide" (defArgs sLawWide) (defBody sLawWide) (defScope sLawWide) .none kV8 dc8 pm8 an8 cd8 ct8), sl8⟩) (c8 : PySem.W.codeIn K cd8 "_law_wide" = true) (k8 : PySem.W.keepIn K (.ref f8) = true)
    (a9 : PySem.W.nsIn K mainGlobals "law" = some (some (.ref f9))) (l9 : K.lookup f9 = some ⟨oc9, od9, .func (PySem.W.fnOf "law" "law" (defArgs sLaw) (defBody sLaw) (defScope sLaw) .none kV9 dc9 pm9 an9 cd9 ct9), sl9⟩) (c9 : PySem.W.codeIn K cd9 "law" = true) (k9 : PySem.W.keepIn K (.ref f9) = true)
    (z0 : PySem.W.nsIn K mainGlobals "abs" = some none)
    (z1 : PySem.W.nsIn K mainGlobals "int" = some none)
    (z2 : PySem.W.nsIn K mainGlobals "len" = some none)
    (z3 : PySem.W.nsIn K mainGlobals "range" = some none)
    (z4 : PySem.W.nsIn K mainGlobals "set" = some none)
    (z5 : PySem.W.nsIn K mainGlobals "sorted" = some none)
    (i0 : PySem.W.nsIn K mainGlobals "isqrt" = some (some (.builtin "math.isqrt")))
    : ∃ fd : FuncData, (∀ (s : Shared) (v : Value), BindsTo s fd ⟨[v], []⟩ [("script", v)]) ∧ ∀ base : Heap, K.In base → base.Ns mainGlobals mg → FnOk l.prog w K mg base CX0 4 f fd ["script"] (spLaw K) := by
  have e := hfa.symm.trans (PySem.W.mg_of X G a9)
  cases e
  have F0 := fun_mk (st := sFloorRoot) l0 c0 k0
  have F1 := fun_mk (st := sIsSquare) l1 c1 k1
  have F2 := fun_mk (st := sQuadraticRoots) l2 c2 k2
  have F3 := fun_mk (st := sValueAt) l3 c3 k3
  have F4 := fun_mk (st := sLawCell) l4 c4 k4
  have F5 := fun_mk (st := sLawNumbers) l5 c5 k5
  have F6 := fun_mk (st := sLawState) l6 c6 k6
  have F7 := fun_mk (st := sLawNext) l7 c7 k7
  have F8 := fun_mk (st := sLawWide) l8 c8 k8
  have F9 := fun_mk (st := sLaw) l9 c9 k9
  have b0 := F0.binds (ps := ["n"]) fun _ _ _ _ _ _ us hl => match us, hl with | [_], _ => rfl
  have b1 := F1.binds (ps := ["n"]) fun _ _ _ _ _ _ us hl => match us, hl with | [_], _ => rfl
  have b2 := F2.binds (ps := ["a", "b", "c"]) fun _ _ _ _ _ _ us hl => match us, hl with | [_, _, _], _ => rfl
  have b3 := F3.binds (ps := ["row", "n"]) fun _ _ _ _ _ _ us hl => match us, hl with | [_, _], _ => rfl
  have b4 := F4.binds (ps := ["script", "k"]) fun _ _ _ _ _ _ us hl => match us, hl with | [_, _], _ => rfl
  have b5 := F5.binds (ps := ["cell", "many"]) fun _ _ _ _ _ _ us hl => match us, hl with | [_, _], _ => rfl
  have b6 := F6.binds (ps := ["script"]) fun _ _ _ _ _ _ us hl => match us, hl with | [_], _ => rfl
  have b7 := F7.binds (ps := ["state", "many"]) fun _ _ _ _ _ _ us hl => match us, hl with | [_, _], _ => rfl
  have b8 := F8.binds (ps := ["state", "many"]) fun _ _ _ _ _ _ us hl => match us, hl with | [_, _], _ => rfl
  have b9 := F9.binds (ps := ["script"]) fun _ _ _ _ _ _ us hl => match us, hl with | [_], _ => rfl
  let fa : Nat → Addr := fun i => [f0, f1, f2, f3, f4, f5, f6, f7, f8, f].getD i 0
  let fd : Nat → FuncData := fun i => match i with
    | 0 => PySem.W.fnOf "floor_root" "floor_root" (defArgs sFloorRoot) (defBody sFloorRoot) (defScope sFloorRoot) .none kV0 dc0 pm0 an0 cd0 ct0
    | 1 => PySem.W.fnOf "is_square" "is_square" (defArgs sIsSquare) (defBody sIsSquare) (defScope sIsSquare) .none kV1 dc1 pm1 an1 cd1 ct1
    | 2 => PySem.W.fnOf "quadratic_roots" "quadratic_roots" (defArgs sQuadraticRoots) (defBody sQuadraticRoots) (defScope sQuadraticRoots) .none kV2 dc2 pm2 an2 cd2 ct2
    | 3 => PySem.W.fnOf "value_at" "value_at" (defArgs sValueAt) (defBody sValueAt) (defScope sValueAt) .none kV3 dc3 pm3 an3 cd3 ct3
    | 4 => PySem.W.fnOf "_law_cell" "_law_cell" (defArgs sLawCell) (defBody sLawCell) (defScope sLawCell) .none kV4 dc4 pm4 an4 cd4 ct4
    | 5 => PySem.W.fnOf "_law_numbers" "_law_numbers" (defArgs sLawNumbers) (defBody sLawNumbers) (defScope sLawNumbers) .none kV5 dc5 pm5 an5 cd5 ct5
    | 6 => PySem.W.fnOf "_law_state" "_law_state" (defArgs sLawState) (defBody sLawState) (defScope sLawState) .none kV6 dc6 pm6 an6 cd6 ct6
    | 7 => PySem.W.fnOf "_law_next" "_law_next" (defArgs sLawNext) (defBody sLawNext) (defScope sLawNext) .none kV7 dc7 pm7 an7 cd7 ct7
    | 8 => PySem.W.fnOf "_law_wide" "_law_wide" (defArgs sLawWide) (defBody sLawWide) (defScope sLawWide) .none kV8 dc8 pm8 an8 cd8 ct8
    | _ => PySem.W.fnOf "law" "law" (defArgs sLaw) (defBody sLaw) (defScope sLaw) .none kV9 dc9 pm9 an9 cd9 ct9
  have T : Txt K mg fa fd := {
    F_floor_root := F0, B_floor_root := b0, G_floor_root := PySem.W.mg_of X G a0,
    F_is_square := F1, B_is_square := b1, G_is_square := PySem.W.mg_of X G a1,
    F_quadratic_roots := F2, B_quadratic_roots := b2, G_quadratic_roots := PySem.W.mg_of X G a2,
    F_value_at := F3, B_value_at := b3, G_value_at := PySem.W.mg_of X G a3,
    F__law_cell := F4, B__law_cell := b4, G__law_cell := PySem.W.mg_of X G a4,
    F__law_numbers := F5, B__law_numbers := b5, G__law_numbers := PySem.W.mg_of X G a5,
    F__law_state := F6, B__law_state := b6, G__law_state := PySem.W.mg_of X G a6,
    F__law_next := F7, B__law_next := b7, G__law_next := PySem.W.mg_of X G a7,
    F__law_wide := F8, B__law_wide := b8, G__law_wide := PySem.W.mg_of X G a8,
    F_law := F9, B_law := b9, G_law := PySem.W.mg_of X G a9,
    m_abs := PySem.W.mg_none_of X G z0, m_int := PySem.W.mg_none_of X G z1, m_len := PySem.W.mg_none_of X G z2, m_range := PySem.W.mg_none_of X G z3, m_set := PySem.W.mg_none_of X G z4, m_sorted := PySem.W.mg_none_of X G z5, g_isqrt := PySem.W.mg_of X G i0 }
  exact ⟨fd 9, fun s v => .of_eq rfl, fun base _ _ => okLaw T⟩
end Wc
open PySem PySem.W PyProof.Rows
set_option maxHeartbeats 0 in
theorem PySem.Challenge.cw_wholeconic_k26_integer_roots_holds : PySem.Challenge.rw_wholeconic_k26_integer_roots.Holds := by
  w_on; o_law; k_head; (case hw => w_witness2)
  k_fill
  refine L2.walk_of (l := PySem.Challenge.rw_wholeconic_k26_integer_roots) (n := 63) (k := 4) (x := "script") (CX := fun _ => L2.CX0) (sp := fun w => Wc.spLaw _) rfl (by decide) rfl ⟨rfl, by decide, by decide⟩ (fun w h Y => PySem.W.kIn_of Y) ?F (fun _ _ a ns hl _ hS => ⟨a, ns, rfl, hS, hl, fun _ => rfl⟩) (fun _ _ _ _ _ h => h)
  case F =>
    intro w mg fa h KX G hmg
    refine' Wc.all_mk KX G hmg ?a0 ?l0 ?c0 ?k0 ?a1 ?l1 ?c1 ?k1 ?a2 ?l2 ?c2 ?k2 ?a3 ?l3 ?c3 ?k3 ?a4 ?l4 ?c4 ?k4 ?a5 ?l5 ?c5 ?k5 ?a6 ?l6 ?c6 ?k6 ?a7 ?l7 ?c7 ?k7 ?a8 ?l8 ?c8 ?k8 ?a9 ?l9 ?c9 ?k9 ?z0 ?z1 ?z2 ?z3 ?z4 ?z5 ?i0
    (case a0 => k_is); (case l0 => k_is); (case c0 => k_is); (case k0 => k_is); (case a1 => k_is); (case l1 => k_is); (case c1 => k_is); (case k1 => k_is); (case a2 => k_is); (case l2 => k_is); (case c2 => k_is); (case k2 => k_is); (case a3 => k_is); (case l3 => k_is); (case c3 => k_is); (case k3 => k_is); (case a4 => k_is); (case l4 => k_is); (case c4 => k_is); (case k4 => k_is); (case a5 => k_is); (case l5 => k_is); (case c5 => k_is); (case k5 => k_is); (case a6 => k_is); (case l6 => k_is); (case c6 => k_is); (case k6 => k_is); (case a7 => k_is); (case l7 => k_is); (case c7 => k_is); (case k7 => k_is); (case a8 => k_is); (case l8 => k_is); (case c8 => k_is); (case k8 => k_is); (case a9 => k_is); (case l9 => k_is); (case c9 => k_is); (case k9 => k_is); (case z0 => k_is); (case z1 => k_is); (case z2 => k_is); (case z3 => k_is); (case z4 => k_is); (case z5 => k_is); (case i0 => k_is)
