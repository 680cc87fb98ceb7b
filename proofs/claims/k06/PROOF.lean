import PyProof.Rows.All
import Wide.All
import OpenK.AllK
import Wide.FinOn
import HandS.ForMost
import HandS.Wide
import HandS.Gcd
import HandS.Style
import HandS.IsInst
import HandS.Codes
import Flt.RightSqrt
import PySem.Challenge.RW_wholeconic_k06_convergents_and_pell
set_option Elab.async false
set_option linter.all false
set_option maxRecDepth 100000
set_option maxHeartbeats 4000000
namespace Wc
open PySem PySem.Spec PyProof.Rows L2
/-! ### the text -/
def topS (i : Nat) : Stmt := PySem.Challenge.pw_wholeconic_k06_convergents_and_pell.main.body.getD i (.Pass ⟨0, 0, 0, 0⟩)
abbrev sFloorRoot : Stmt := topS 5
theorem scFloorRoot : FnScope ["n"] ["n"] (defScope sFloorRoot) := ⟨rfl, rfl, rfl, by decide +kernel, rfl, by decide +kernel, by decide +kernel⟩
abbrev sIsSquare : Stmt := topS 6
theorem scIsSquare : FnScope ["n", "root"] ["n"] (defScope sIsSquare) := ⟨rfl, rfl, rfl, by decide +kernel, rfl, by decide +kernel, by decide +kernel⟩
abbrev sExpand : Stmt := topS 8
theorem scExpand : FnScope ["p", "q", "d", "root", "places", "parts", "part", "first"] ["p", "q", "d"] (defScope sExpand) := ⟨rfl, rfl, rfl, by decide +kernel, rfl, by decide +kernel, by decide +kernel⟩
abbrev sPartOf : Stmt := topS 9
theorem scPartOf : FnScope ["p", "q", "root"] ["p", "q", "root"] (defScope sPartOf) := ⟨rfl, rfl, rfl, by decide +kernel, rfl, by decide +kernel, by decide +kernel⟩
abbrev sConvergents : Stmt := topS 10
theorem scConvergents : FnScope ["parts", "found", "before", "last", "part"] ["parts"] (defScope sConvergents) := ⟨rfl, rfl, rfl, by decide +kernel, rfl, by decide +kernel, by decide +kernel⟩
abbrev sPartAt : Stmt := topS 11
theorem scPartAt : FnScope ["expansion", "index", "first", "period"] ["expansion", "index"] (defScope sPartAt) := ⟨rfl, rfl, rfl, by decide +kernel, rfl, by decide +kernel, by decide +kernel⟩
abbrev sEvenTurn : Stmt := topS 12
theorem scEvenTurn : FnScope ["p", "q", "d", "expansion", "many", "index"] ["p", "q", "d"] (defScope sEvenTurn) := ⟨rfl, rfl, rfl, by decide +kernel, rfl, by decide +kernel, by decide +kernel⟩
abbrev sPell : Stmt := topS 13
theorem scPell : FnScope ["d"] ["d"] (defScope sPell) := ⟨rfl, rfl, rfl, by decide +kernel, rfl, by decide +kernel, by decide +kernel⟩
abbrev sLawCell : Stmt := topS 15
theorem scLawCell : FnScope ["script", "k"] ["script", "k"] (defScope sLawCell) := ⟨rfl, rfl, rfl, by decide +kernel, rfl, by decide +kernel, by decide +kernel⟩
abbrev sLawNumbers : Stmt := topS 16
theorem scLawNumbers : FnScope ["cell", "many", "rest", "span", "numbers", "k", "mixed"] ["cell", "many"] (defScope sLawNumbers) := ⟨rfl, rfl, rfl, by decide +kernel, rfl, by decide +kernel, by decide +kernel⟩
abbrev sLawState : Stmt := topS 17
theorem scLawState : FnScope ["script", "numbers", "k"] ["script"] (defScope sLawState) := ⟨rfl, rfl, rfl, by decide +kernel, rfl, by decide +kernel, by decide +kernel⟩
abbrev sLawNext : Stmt := topS 18
theorem scLawNext : FnScope ["state", "many", "number"] ["state", "many"] (defScope sLawNext) := ⟨rfl, rfl, rfl, by decide +kernel, rfl, by decide +kernel, by decide +kernel⟩
abbrev sLawWide : Stmt := topS 19
theorem scLawWide : FnScope ["state", "many", "total", "k"] ["state", "many"] (defScope sLawWide) := ⟨rfl, rfl, rfl, by decide +kernel, rfl, by decide +kernel, by decide +kernel⟩
abbrev sLawRoot : Stmt := topS 20
theorem scLawRoot : FnScope ["n", "low", "high", "k", "middle"] ["n"] (defScope sLawRoot) := ⟨rfl, rfl, rfl, by decide +kernel, rfl, by decide +kernel, by decide +kernel⟩
abbrev sLawPell : Stmt := topS 21
theorem scLawPell : FnScope ["d", "root", "m", "low", "part", "top", "bottom", "k"] ["d"] (defScope sLawPell) := ⟨rfl, rfl, rfl, by decide +kernel, rfl, by decide +kernel, by decide +kernel⟩
abbrev sLaw : Stmt := topS 22
theorem scLaw : FnScope ["script", "state", "parts", "due", "top", "bottom", "part", "passed", "d", "k"] ["script"] (defScope sLaw) := ⟨rfl, rfl, rfl, by decide +kernel, rfl, by decide +kernel, by decide +kernel⟩
structure Txt (K : PySem.W.Frag) (mg : Str → Option Value) (fa : Nat → Addr) (fd : Nat → FuncData) : Prop where
  F_floor_root : Fun K "floor_root" "floor_root" sFloorRoot (fa 0) (fd 0)
  B_floor_root : Binds K (fd 0) ["n"] []
  G_floor_root : mg "floor_root" = some (.ref (fa 0))
  F_is_square : Fun K "is_square" "is_square" sIsSquare (fa 1) (fd 1)
  B_is_square : Binds K (fd 1) ["n"] []
  G_is_square : mg "is_square" = some (.ref (fa 1))
  F_expand : Fun K "expand" "expand" sExpand (fa 2) (fd 2)
  B_expand : Binds K (fd 2) ["p", "q", "d"] []
  G_expand : mg "expand" = some (.ref (fa 2))
  F__part_of : Fun K "_part_of" "_part_of" sPartOf (fa 3) (fd 3)
  B__part_of : Binds K (fd 3) ["p", "q", "root"] []
  G__part_of : mg "_part_of" = some (.ref (fa 3))
  F_convergents : Fun K "convergents" "convergents" sConvergents (fa 4) (fd 4)
  B_convergents : Binds K (fd 4) ["parts"] []
  G_convergents : mg "convergents" = some (.ref (fa 4))
  F_part_at : Fun K "part_at" "part_at" sPartAt (fa 5) (fd 5)
  B_part_at : Binds K (fd 5) ["expansion", "index"] []
  G_part_at : mg "part_at" = some (.ref (fa 5))
  F_even_turn : Fun K "even_turn" "even_turn" sEvenTurn (fa 6) (fd 6)
  B_even_turn : Binds K (fd 6) ["p", "q", "d"] []
  G_even_turn : mg "even_turn" = some (.ref (fa 6))
  F_pell : Fun K "pell" "pell" sPell (fa 7) (fd 7)
  B_pell : Binds K (fd 7) ["d"] []
  G_pell : mg "pell" = some (.ref (fa 7))
  F__law_cell : Fun K "_law_cell" "_law_cell" sLawCell (fa 8) (fd 8)
  B__law_cell : Binds K (fd 8) ["script", "k"] []
  G__law_cell : mg "_law_cell" = some (.ref (fa 8))
  F__law_numbers : Fun K "_law_numbers" "_law_numbers" sLawNumbers (fa 9) (fd 9)
  B__law_numbers : Binds K (fd 9) ["cell", "many"] []
  G__law_numbers : mg "_law_numbers" = some (.ref (fa 9))
  F__law_state : Fun K "_law_state" "_law_state" sLawState (fa 10) (fd 10)
  B__law_state : Binds K (fd 10) ["script"] []
  G__law_state : mg "_law_state" = some (.ref (fa 10))
  F__law_next : Fun K "_law_next" "_law_next" sLawNext (fa 11) (fd 11)
  B__law_next : Binds K (fd 11) ["state", "many"] []
  G__law_next : mg "_law_next" = some (.ref (fa 11))
  F__law_wide : Fun K "_law_wide" "_law_wide" sLawWide (fa 12) (fd 12)
  B__law_wide : Binds K (fd 12) ["state", "many"] []
  G__law_wide : mg "_law_wide" = some (.ref (fa 12))
  F__law_root : Fun K "_law_root" "_law_root" sLawRoot (fa 13) (fd 13)
  B__law_root : Binds K (fd 13) ["n"] []
  G__law_root : mg "_law_root" = some (.ref (fa 13))
  F__law_pell : Fun K "_law_pell" "_law_pell" sLawPell (fa 14) (fd 14)
  B__law_pell : Binds K (fd 14) ["d"] []
  G__law_pell : mg "_law_pell" = some (.ref (fa 14))
  F_law : Fun K "law" "law" sLaw (fa 15) (fd 15)
  B_law : Binds K (fd 15) ["script"] []
  G_law : mg "law" = some (.ref (fa 15))
  m_abs : mg "abs" = none
  m_int : mg "int" = none
  m_len : mg "len" = none
  m_list : mg "list" = none
  m_range : mg "range" = none
  m_tuple : mg "tuple" = none
  g_isqrt : mg "isqrt" = some (.builtin "math.isqrt")

/-! ### heaps, draws -/
theorem same_upd {H : Hp} {p : Addr} {o : HO} (h : H p = none) : Same H (upd H p o) := fun b x e => by
  rw [upd_ne (ne_of_none e h)]
  exact e
theorem same_mut {H0 H : Hp} {p : Addr} {o : HO} (s : Same H0 H) (h : H0 p = none) : Same H0 (upd H p o) := fun b x e => by
  rw [upd_ne (ne_of_none e h)]
  exact s _ _ e
theorem same_off {H H' : Hp} {p : Addr} {o : HO} {q : Addr} (f : ∀ b, b ≠ p → H' b = H b) (n : q ≠ p) (h : H q = some o) : H' q = some o := by
  rw [f q n]
  exact h
/-- the state of the draws: the list at p, its numbers at a, at most N draws so far -/
def Dw (H : Hp) (p a : Addr) (N : Nat) : Prop := ∃ (m : Nat) (ns : List Int), m ≤ N ∧ a ≠ p ∧ H p = some (.lst [.ref a, .int (m : Int)]) ∧ H a = some (.lst (ns.map V.int)) ∧ ns.length = 120 ∧ ∀ n ∈ ns, 0 ≤ n ∧ n < 1000
theorem Dw.same {H H' : Hp} {p a : Addr} {N : Nat} (s : Same H H') (d : Dw H p a N) : Dw H' p a N := by
  obtain ⟨m, ns, h1, h2, h3, h4, h5⟩ := d
  exact ⟨m, ns, h1, h2, s _ _ h3, s _ _ h4, h5⟩
theorem Dw.mono {H : Hp} {p a : Addr} {N M : Nat} (d : Dw H p a N) (h : N ≤ M) : Dw H p a M := by
  obtain ⟨m, ns, h1, h2⟩ := d
  exact ⟨m, ns, Nat.le_trans h1 h, h2⟩
theorem Dw.new {H : Hp} {p a q : Addr} {o : HO} {N : Nat} (d : Dw H p a N) (h : H q = none) : Dw (upd H q o) p a N := d.same (same_upd h)
theorem Dw.ne {H : Hp} {p a q : Addr} {N : Nat} (d : Dw H p a N) (h : H q = none) : q ≠ p ∧ q ≠ a := by
  obtain ⟨m, ns, h1, h2, h3, h4, h5⟩ := d
  exact ⟨(ne_of_none h3 h).symm, (ne_of_none h4 h).symm⟩
theorem Dw.mut {H : Hp} {p a q : Addr} {o : HO} {N : Nat} (d : Dw H p a N) (hp : q ≠ p) (ha : q ≠ a) : Dw (upd H q o) p a N := by
  obtain ⟨m, ns, h1, h2, h3, h4, h5⟩ := d
  exact ⟨m, ns, h1, h2, by rw [upd_ne hp.symm]; exact h3, by rw [upd_ne ha.symm]; exact h4, h5⟩
theorem at_mem {α : Type} {xs : List α} {r : Int} (h0 : 0 ≤ r) (h1 : r < xs.length) : ∃ v, v ∈ xs ∧ atI xs r = some v := by
  obtain ⟨j, rfl⟩ := Int.eq_ofNat_of_zero_le h0
  have hj : j < xs.length := by omega
  exact ⟨xs[j], List.getElem_mem hj, atI_nat (List.getElem?_eq_getElem hj)⟩
theorem at_int {ns : List Int} {r : Int} (h0 : 0 ≤ r) (h1 : r < ns.length) : ∃ n ∈ ns, atI (ns.map V.int) r = some (.int n) := by
  obtain ⟨v, hv, e⟩ := at_mem (xs := ns.map V.int) h0 (by rw [List.length_map]; exact h1)
  obtain ⟨n, hn, rfl⟩ := List.mem_map.mp hv
  exact ⟨n, hn, e⟩
theorem pow_ok {i j : Int} (h : 0 ≤ j ∧ j ≤ 1000000 ∧ i.natAbs < 2 ^ 64) : CPow i j := h
theorem wayF {c A B : Prop} [Decidable c] (h : ¬ c) (b : B) : if decide c = true then A else B := by
  rw [if_neg (fun z => h (of_decide_eq_true z))]
  exact b
theorem wayT {c A B : Prop} [Decidable c] (h : c) (a : A) : if decide c = true then A else B := by
  rw [if_pos (decide_eq_true h)]
  exact a
theorem wayNF {c A B : Prop} [Decidable c] (h : c) (b : B) : if (!decide c) = true then A else B := by
  rw [decide_eq_true h]
  exact iteF b
theorem wayNT {c A B : Prop} [Decidable c] (h : ¬ c) (a : A) : if (!decide c) = true then A else B := by
  rw [decide_eq_false h]
  exact iteT a
theorem way2 {c A B : Prop} [Decidable c] (h1 : c → A) (h2 : ¬ c → B) : if decide c = true then A else B := by
  by_cases h : c
  · exact wayT h (h1 h)
  · exact wayF h (h2 h)
theorem wayN2 {c A B : Prop} [Decidable c] (h1 : ¬ c → A) (h2 : c → B) : if (!decide c) = true then A else B := by
  by_cases h : c
  · exact wayNF h (h2 h)
  · exact wayNT h (h1 h)
theorem abs_int (i : Int) : (if i < 0 then -i else i) = (i.natAbs : Int) := by
  split <;> omega
theorem small200 {n : Nat} (h : n ≤ 1000) : n ≤ sizeLine := Nat.le_of_lt (small1000 h)
/-! ### data: == of lists and tuples -/
theorem dp_ints {K : PySem.W.Frag} {H : Hp} : ∀ ns : List Int, DpAll K H (ns.map V.int) (ns.map PyData.int)
  | [] => .nil
  | n :: ns => .cons (.int n) (dp_ints ns)
theorem lay_ints : ∀ ns : List Int, PyData.canLayAll0 (ns.map PyData.int) = true
  | [] => rfl
  | n :: ns => by
    rw [List.map_cons, PyData.canLayAll0, lay_ints ns]
    rfl
theorem depth_ints : ∀ ns : List Int, PyData.depthAll (ns.map PyData.int) = 0
  | [] => rfl
  | n :: ns => by
    rw [List.map_cons, PyData.depthAll, depth_ints ns]
    rfl
theorem shaped_ints (ns : List Int) : SeqAt.shaped (.list (ns.map PyData.int)) = true := by
  show (PyData.canLay0 (.list (ns.map PyData.int)) && decide (PyData.depth (.list (ns.map PyData.int)) ≤ 64)) = true
  rw [Bool.and_eq_true]
  refine ⟨by rw [PyData.canLay0]; exact lay_ints ns, decide_eq_true ?_⟩
  rw [PyData.depth, depth_ints]
  decide
theorem shaped_intsT (ns : List Int) : SeqAt.shaped (.tuple (ns.map PyData.int)) = true := by
  show (PyData.canLay0 (.tuple (ns.map PyData.int)) && decide (PyData.depth (.tuple (ns.map PyData.int)) ≤ 64)) = true
  rw [Bool.and_eq_true]
  refine ⟨by rw [PyData.canLay0]; exact lay_ints ns, decide_eq_true ?_⟩
  rw [PyData.depth, depth_ints]
  decide
theorem eqD_same {K : PySem.W.Frag} {H : Hp} {x y : V} {Q : VK} {d : PyData} (hx : Dp K H x d) (hy : Dp K H y d) (sh : SeqAt.shaped d = true) (q : Q (.bl true) H) : rEqD K x y H Q :=
  ⟨d, d, hx, hy, sh, sh, by rw [SeqAt.eqv_refl d (SeqAt.canLay_of_shaped sh)]; exact q⟩
theorem neD_same {K : PySem.W.Frag} {H : Hp} {x y : V} {Q : VK} {d : PyData} (hx : Dp K H x d) (hy : Dp K H y d) (sh : SeqAt.shaped d = true) (q : Q (.bl false) H) : rNeD K x y H Q :=
  ⟨d, d, hx, hy, sh, sh, by rw [SeqAt.eqv_refl d (SeqAt.canLay_of_shaped sh)]; exact q⟩
/-! ### slices -/
theorem cut_to (ns : List Int) (k : Nat) : cutV (ns.map V.int) none (some (k : Int)) = (ns.take k).map V.int := by
  unfold cutV
  rw [HT.sIx_none, HT.sIx_nat, List.drop_zero, List.map_take, Nat.sub_zero, List.length_map]
  by_cases h : k ≤ ns.length
  · rw [Nat.min_eq_left h]
  · rw [Nat.min_eq_right (by omega), List.take_of_length_le (by rw [List.length_map]; omega), List.take_of_length_le (by rw [List.length_map]; omega)]
theorem cut_from (xs : List V) (k : Nat) : cutV xs (some (k : Int)) none = xs.drop k := by
  unfold cutV
  rw [HT.sIx_none, HT.sIx_nat]
  by_cases h : k ≤ xs.length
  · rw [Nat.min_eq_left h, List.take_of_length_le (by rw [List.length_drop]; omega)]
  · rw [Nat.min_eq_right (by omega), List.drop_of_length_le (by omega), List.drop_of_length_le (by omega)]
    exact List.take_nil
theorem isiF {K : PySem.W.Frag} {H : Hp} {i : Int} {Q : VK} (q : Q (.bl false) H) : rIsi K [.int i, .ty "bool"] H Q := ⟨_, _, _, _, false, rfl, ClsV.ty _, TyX.base (.int i), kit_ty (by decide +kernel), q⟩
theorem isiT {K : PySem.W.Frag} {H : Hp} {b : Bool} {Q : VK} (q : Q (.bl true) H) : rIsi K [.bl b, .ty "bool"] H Q := ⟨_, _, _, _, true, rfl, ClsV.ty _, TyX.base (.bl b), kit_ty (by decide +kernel), q⟩
theorem isiTup {K : PySem.W.Frag} {H : Hp} {a : Addr} {xs : List V} {Q : VK} (h : H a = some (.tup xs)) (q : Q (.bl true) H) : rIsi K [.ref a, .ty "tuple"] H Q := ⟨_, _, _, _, true, rfl, ClsV.ty _, TyX.base (.tup h), kit_ty (by decide +kernel), q⟩
theorem isiLst {K : PySem.W.Frag} {H : Hp} {a : Addr} {xs : List V} {Q : VK} (h : H a = some (.lst xs)) (q : Q (.bl true) H) : rIsi K [.ref a, .ty "list"] H Q := ⟨_, _, _, _, true, rfl, ClsV.ty _, TyX.base (.lst h), kit_ty (by decide +kernel), q⟩
/-! ### rules with the written part named -/
section
variable {X : Cx}
def rLenQ (K : PySem.W.Frag) : List V → Hp → VK → Prop := fun xs H Q => ∃ p ys, xs = [.ref p] ∧ (SqL K H p ys ∨ SqT K H p ys) ∧ Q (.int ys.length) H
def rListQ (K : PySem.W.Frag) : List V → Hp → VK → Prop := fun xs H Q => ∃ p ys, xs = [.ref p] ∧ (SqL K H p ys ∨ SqT K H p ys) ∧ ∀ l, H l = none → Q (.ref l) (upd H l (.lst ys))
def rTupQ (K : PySem.W.Frag) : List V → Hp → VK → Prop := fun xs H Q => ∃ p ys, xs = [.ref p] ∧ ((SqL K H p ys ∧ ∀ l, H l = none → Q (.ref l) (upd H l (.tup ys))) ∨ (SqT K H p ys ∧ Q (.ref p) H))
theorem ixL (K : PySem.W.Frag) (h : X.K = K := by rfl) : IxR X (rIxL K) := by subst h; exact ix_list
theorem ixT (K : PySem.W.Frag) (h : X.K = K := by rfl) : IxR X (rIxT K) := by subst h; exact ix_tup
theorem slL (K : PySem.W.Frag) (h : X.K = K := by rfl) : SlR X (rSlL K) := by subst h; exact sl_list
theorem slT (K : PySem.W.Frag) (h : X.K = K := by rfl) : SlR X (rSlT K) := by subst h; exact sl_tup
theorem lenQ (K : PySem.W.Frag) (h : X.K = K := by rfl) : CallR X (.builtin "len") (rLenQ K) := by subst h; exact call_len_seq
theorem listQ (K : PySem.W.Frag) (h : X.K = K := by rfl) : CallR X (.type "list") (rListQ K) := by subst h; exact call_list_of
theorem tupQ (K : PySem.W.Frag) (h : X.K = K := by rfl) : CallR X (.type "tuple") (rTupQ K) := by subst h; exact call_tuple_of
theorem isiQ (K : PySem.W.Frag) (h : X.K = K := by rfl) : CallR X (.builtin "isinstance") (rIsi K) := by subst h; exact call_isi
theorem eqDQ (K : PySem.W.Frag) (hu : X.A.units + 64 < cLine) (h : X.K = K := by rfl) : OpR X (compareOp .Eq) (rEqD K) := by subst h; exact op_eqD hu
theorem neDQ (K : PySem.W.Frag) (hu : X.A.units + 64 < cLine) (h : X.K = K := by rfl) : OpR X (compareOp .NotEq) (rNeD K) := by subst h; exact op_neD hu
theorem piL (K : PySem.W.Frag) {tg l : Expr} {tl : TE} (hl : PE X l tl) (h : X.K = K := by rfl) : PI X tg l (iList K tl) := by subst h; exact pi_list hl
theorem piT (K : PySem.W.Frag) {tg l : Expr} {tl : TE} (hl : PE X l tl) (h : X.K = K := by rfl) : PI X tg l (iTup K tl) := by subst h; exact pi_tup hl
theorem inQ (K : PySem.W.Frag) (h : X.K = K := by rfl) : OpR X (compareOp .In) (rIn K false) := by subst h; exact op_in_seq
theorem notInQ (K : PySem.W.Frag) (h : X.K = K := by rfl) : OpR X (compareOp .NotIn) (rIn K true) := by subst h; exact op_notIn_seq
end
/-! ### great numbers -/
section
variable {X : Cx}
/-- // by any divisor below 2 ^ 9000 -/
def CDivX (_ j : Int) : Prop := j ≠ 0 ∧ j.natAbs < 2 ^ 9000
theorem op_fdivX : OpR X (binaryOp .FloorDiv) (rI CDivX fun i j => .int (i.fdiv j)) := opI fun i j _ _ _ _ _ hc q =>
  floordiv_int hc.1 q (.inl (PyProof.noPylong_of_log2 (PySem.Flt.log2_lt_of (by decide) hc.2)))
end
theorem pow_up {n a b : Nat} (h : n < 2 ^ a) (hab : a ≤ b) : n < 2 ^ b := Nat.lt_of_lt_of_le h (Nat.pow_le_pow_right (by decide) hab)

/-! ### whole roots -/
section
variable {X : Cx}
theorem cr_isqrt : CallR X (.builtin "math.isqrt") (fun vs H Q => ∃ i : Int, vs = [.int i] ∧ 0 ≤ i ∧ i.natAbs < 2 ^ 13000 ∧ Q (.int ((Float64.isqrt i.toNat : Nat) : Int)) H) := by
  intro pins s σ H vs us Q I r h
  obtain ⟨i, rfl, h0, h1, q⟩ := h
  obtain ⟨u, rfl, t, rfl⟩ := vals1 r
  have hl : i.toNat.log2 < 13000 := PySem.Flt.log2_lt_of (by decide) (by omega)
  exact call_function_meets PySem.W.MGF.kind_isqrt PySem.W.MGF.plain_isqrt PySem.W.MGF.entry_isqrt (PySem.W.MGF.args_isqrt _) (PySem.W.mg_run_isqrt i t (by omega) (by omega) (by omega)).meets ⟨.int _, H, I.tok _, ⟨_, rfl⟩, q⟩
end
def rootI (n : Int) : Int := ((Float64.isqrt n.toNat : Nat) : Int)
theorem rootI_spec {n : Int} (h : 0 ≤ n) : 0 ≤ rootI n ∧ rootI n * rootI n ≤ n ∧ n < (rootI n + 1) * (rootI n + 1) := by
  obtain ⟨k, rfl⟩ := Int.eq_ofNat_of_zero_le h
  have e := Float64.isqrt_spec k
  unfold rootI
  have e2 : Int.toNat (k : Int) = k := rfl
  rw [e2]
  generalize Float64.isqrt k = m at e ⊢
  refine ⟨Int.natCast_nonneg m, ?_, ?_⟩
  · exact_mod_cast e.1
  · exact_mod_cast e.2
theorem rootI_lt {n : Int} {b : Nat} (h : 0 ≤ n) (hb : n.natAbs < 2 ^ b) : (rootI n).natAbs < 2 ^ b := by
  obtain ⟨h0, h1, h2⟩ := rootI_spec h
  have h3 : rootI n ≤ n := by
    by_cases e : rootI n = 0
    · omega
    · have h4 : 1 * rootI n ≤ rootI n * rootI n := Int.mul_le_mul_of_nonneg_right (by omega) h0
      omega
  omega
/-! ### common measures -/
def gI (a b : Int) : Int := ((Nat.gcd a.natAbs b.natAbs : Nat) : Int)
theorem gI_nn (a b : Int) : 0 ≤ gI a b := Int.natCast_nonneg _
theorem gI_lt {a b : Int} {B : Nat} (ha : a.natAbs < B) (hb : b.natAbs < B) : (gI a b).natAbs < B := by
  unfold gI
  rw [Int.natAbs_natCast]
  by_cases h : a.natAbs = 0
  · rw [h, Nat.gcd_zero_left]
    exact hb
  · exact Nat.lt_of_le_of_lt (Nat.gcd_le_left _ (by omega)) ha
def gL (ns : List Int) : Int := ns.foldl gI 0
theorem gL_take {ns : List Int} {i : Nat} {x : Int} (h : ns[i]? = some x) : gL (ns.take (i + 1)) = gI (gL (ns.take i)) x := by
  unfold gL
  rw [List.take_add_one, h, List.foldl_append]
  rfl
/-- one step of the walk of measures: what // and the rest are -/
theorem fd_rest {g r : Int} (h : r ≠ 0) : (g - g.fdiv r * r).natAbs < r.natAbs ∧ (0 < r → 0 ≤ g - g.fdiv r * r) ∧ (r < 0 → g - g.fdiv r * r ≤ 0) := by
  have e : g - g.fdiv r * r = g.fmod r := by
    rw [Int.fmod_def, Int.mul_comm]
  rw [e]
  by_cases hr : 0 < r
  · have h1 := Int.fmod_nonneg_of_pos g hr
    have h2 := Int.fmod_lt_of_pos g hr
    refine ⟨by omega, fun _ => h1, fun _ => by omega⟩
  · have h1 := Int.fmod_nonneg_of_pos (-g) (b := -r) (by omega)
    have h2 := Int.fmod_lt_of_pos (-g) (b := -r) (by omega)
    rw [Int.neg_fmod_neg] at h1 h2
    refine ⟨by omega, fun _ => by omega, fun _ => by omega⟩
theorem gcd_step (g q r : Int) : Nat.gcd r.natAbs (g - q * r).natAbs = Nat.gcd g.natAbs r.natAbs := by
  have e1 : Int.gcd r (g - q * r) = Int.gcd r g := by
    rw [Int.sub_eq_add_neg, ← Int.neg_mul]
    exact Int.gcd_add_mul_right_right ..
  have e2 : Int.gcd r g = Int.gcd g r := Int.gcd_comm r g
  exact e1.trans e2
theorem step_lt {g rest u ru q r B : Nat} (hg : g = q * rest + r) (h : ru * g + u * rest ≤ B) : (u + q * ru) * rest + ru * r ≤ B := by
  have e : (u + q * ru) * rest + ru * r = ru * g + u * rest := by
    rw [hg, Nat.add_mul, Nat.mul_add, Nat.mul_comm q ru, Nat.mul_assoc]
    omega
  omega
/-- the state of bezout's walk -/
def Bz (a b g u v r ru rv : Int) : Prop := u * a + v * b = g ∧ ru * a + rv * b = r ∧ (((Nat.gcd g.natAbs r.natAbs : Nat) : Int) = gI a b ∧ u.natAbs ≤ a.natAbs + 2 * b.natAbs + 1 ∧ v.natAbs ≤ a.natAbs + 2 * b.natAbs + 1) ∧
  ((g = a ∧ r = b ∧ u = 1 ∧ v = 0 ∧ ru = 0 ∧ rv = 1) ∨
    (((0 ≤ g ∧ 0 ≤ r) ∨ (g ≤ 0 ∧ r ≤ 0)) ∧ g.natAbs ≤ b.natAbs ∧ r.natAbs < g.natAbs ∧
      ru.natAbs * g.natAbs + u.natAbs * r.natAbs ≤ a.natAbs + 2 * b.natAbs ∧ rv.natAbs * g.natAbs + v.natAbs * r.natAbs ≤ a.natAbs + 2 * b.natAbs))
theorem same_div {g r : Int} (h : (0 ≤ g ∧ 0 < r) ∨ (g ≤ 0 ∧ r < 0)) : g.natAbs = (g.fdiv r).natAbs * r.natAbs + (g - g.fdiv r * r).natAbs := by
  have hr : r ≠ 0 := by omega
  obtain ⟨h1, h2, h3⟩ := fd_rest (g := g) hr
  have hq : 0 ≤ g.fdiv r := by
    rcases h with ⟨a, b⟩ | ⟨a, b⟩
    · exact Int.fdiv_nonneg a (by omega)
    · rw [← Int.neg_fdiv_neg]
      exact Int.fdiv_nonneg (by omega) (by omega)
  obtain ⟨q, e⟩ := Int.eq_ofNat_of_zero_le hq
  rw [e] at h2 h3 ⊢
  rcases h with ⟨a, b⟩ | ⟨a, b⟩
  · have k := h2 b
    have z : g = (q : Int) * r + (g - (q : Int) * r) := by omega
    obtain ⟨r', rfl⟩ := Int.eq_ofNat_of_zero_le (show 0 ≤ r by omega)
    have e2 : ((q * r' : Nat) : Int) = (q : Int) * (r' : Int) := Int.natCast_mul q r'
    rw [Int.natAbs_natCast, Int.natAbs_natCast]
    rw [← e2] at k ⊢
    omega
  · have k := h3 b
    obtain ⟨r', hr'⟩ := Int.eq_ofNat_of_zero_le (show 0 ≤ -r by omega)
    have er : r = -(r' : Int) := by omega
    subst er
    have e2 : ((q * r' : Nat) : Int) = (q : Int) * (r' : Int) := Int.natCast_mul q r'
    rw [Int.mul_neg, ← e2] at k ⊢
    rw [Int.natAbs_natCast, Int.natAbs_neg, Int.natAbs_natCast]
    omega
theorem abs_sub_mul (u q ru : Int) : (u - q * ru).natAbs ≤ u.natAbs + q.natAbs * ru.natAbs := by
  rw [← Int.natAbs_mul]
  omega
theorem Bz.size {a b g u v r ru rv : Int} (h : Bz a b g u v r ru rv) (hr : r ≠ 0) : (g.fdiv r).natAbs ≤ a.natAbs + b.natAbs + 1 ∧ r.natAbs ≤ b.natAbs ∧ ru.natAbs ≤ a.natAbs + 2 * b.natAbs + 1 ∧ rv.natAbs ≤ a.natAbs + 2 * b.natAbs + 1 := by
  obtain ⟨h1, h2, h3, h4⟩ := h
  obtain ⟨k1, k2, k3⟩ := fd_rest (g := g) hr
  have z2 : (g.fdiv r).natAbs * r.natAbs ≤ g.natAbs + r.natAbs := by
    rw [← Int.natAbs_mul]
    omega
  have z3 : (g.fdiv r).natAbs ≤ g.natAbs + 1 := by
    by_cases z : (g.fdiv r).natAbs ≤ g.natAbs + 1
    · exact z
    · have z4 : (g.natAbs + 2) * r.natAbs ≤ (g.fdiv r).natAbs * r.natAbs := Nat.mul_le_mul_right _ (by omega)
      have z5 : g.natAbs * 1 ≤ g.natAbs * r.natAbs := Nat.mul_le_mul_left _ (by omega)
      rw [Nat.add_mul] at z4
      omega
  rcases h4 with ⟨e1, e2, e3, e4, e5, e6⟩ | ⟨e1, e2, e3, e4, e5⟩
  · rw [e5, e6]
    refine ⟨?_, ?_, ?_, ?_⟩ <;> first | omega | (subst e1 e2; omega)
  · have z4 : ru.natAbs * 1 ≤ ru.natAbs * g.natAbs := Nat.mul_le_mul_left _ (by omega)
    have z5 : rv.natAbs * 1 ≤ rv.natAbs * g.natAbs := Nat.mul_le_mul_left _ (by omega)
    refine ⟨by omega, by omega, by omega, by omega⟩
theorem Bz.step {a b g u v r ru rv : Int} (h : Bz a b g u v r ru rv) (hr : r ≠ 0) : Bz a b r ru rv (g - g.fdiv r * r) (u - g.fdiv r * ru) (v - g.fdiv r * rv) := by
  have sz := h.size hr
  obtain ⟨h1, h2, h3, h4⟩ := h
  obtain ⟨k1, k2, k3⟩ := fd_rest (g := g) hr
  refine ⟨h2, ?_, ⟨by rw [gcd_step]; exact h3.1, sz.2.2⟩, .inr ⟨?_, ?_, k1, ?_, ?_⟩⟩
  · rw [← h1, ← h2]
    generalize (u * a + v * b).fdiv (ru * a + rv * b) = q
    rw [Int.sub_mul, Int.sub_mul, Int.mul_add, Int.mul_assoc, Int.mul_assoc]
    omega
  · by_cases z : 0 < r
    · exact .inl ⟨by omega, k2 z⟩
    · exact .inr ⟨by omega, k3 (by omega)⟩
  · rcases h4 with ⟨e1, e2, _⟩ | ⟨_, e2, e3, _⟩
    · rw [e2]
      omega
    · omega
  · rcases h4 with ⟨e1, e2, e3, e4, e5, e6⟩ | ⟨e1, e2, e3, e4, e5⟩
    · rw [e3, e5, e2]
      simp
      omega
    · refine Nat.le_trans (Nat.add_le_add_right (Nat.mul_le_mul_right _ (abs_sub_mul u (g.fdiv r) ru)) _) (step_lt (same_div ?_) e4)
      omega
  · rcases h4 with ⟨e1, e2, e3, e4, e5, e6⟩ | ⟨e1, e2, e3, e4, e5⟩
    · rw [e4, e6]
      have z := abs_sub_mul 0 (g.fdiv r) 1
      have z2 : (g.fdiv r).natAbs * r.natAbs ≤ g.natAbs + r.natAbs := by
        rw [← Int.natAbs_mul]
        omega
      have z3 := Nat.mul_le_mul_right r.natAbs z
      have z4 : (Int.natAbs 0 + (g.fdiv r).natAbs * Int.natAbs 1) * r.natAbs = (g.fdiv r).natAbs * r.natAbs := by simp
      rw [z4] at z3
      have z5 : Int.natAbs 1 * (g - g.fdiv r * r).natAbs = (g - g.fdiv r * r).natAbs := by simp
      rw [z5]
      subst e1 e2
      omega
    · refine Nat.le_trans (Nat.add_le_add_right (Nat.mul_le_mul_right _ (abs_sub_mul v (g.fdiv r) rv)) _) (step_lt (same_div ?_) e5)
      omega

/-! ### the law's own root -/
theorem rootI_uniq {n r : Int} (h : 0 ≤ n) (h0 : 0 ≤ r) (h1 : r * r ≤ n) (h2 : n < (r + 1) * (r + 1)) : r = rootI n := by
  obtain ⟨k0, k1, k2⟩ := rootI_spec h
  generalize rootI n = s at k0 k1 k2 ⊢
  by_cases a : r < s
  · have z : (r + 1) * (r + 1) ≤ s * s := Int.mul_le_mul (by omega) (by omega) (by omega) (by omega)
    omega
  · by_cases b : s < r
    · have z : (s + 1) * (s + 1) ≤ r * r := Int.mul_le_mul (by omega) (by omega) (by omega) (by omega)
      omega
    · omega
theorem half_step {low high n : Int} {i : Nat} (h : low + 1 < high) (hi : (high - low - 1) * 2 ^ i ≤ n) : ((low + high) / 2 - low - 1) * 2 ^ (i + 1) ≤ n ∧ (high - (low + high) / 2 - 1) * 2 ^ (i + 1) ≤ n ∧ low < (low + high) / 2 ∧ (low + high) / 2 < high := by
  have e : (2 : Int) ^ (i + 1) = 2 * 2 ^ i := by rw [Int.pow_succ, Int.mul_comm]
  have p0 : (0 : Int) < 2 ^ i := Int.pow_pos (by decide)
  rw [e]
  generalize (2 : Int) ^ i = B at hi p0 ⊢
  have m1 : (low + high) / 2 - low - 1 ≤ (high - low - 1) / 2 := by omega
  have m2 : high - (low + high) / 2 - 1 ≤ (high - low - 1) / 2 := by omega
  have m3 : 2 * ((high - low - 1) / 2) ≤ high - low - 1 := by omega
  refine ⟨?_, ?_, by omega, by omega⟩
  · have a1 : ((low + high) / 2 - low - 1) * (2 * B) = (2 * ((low + high) / 2 - low - 1)) * B := by grind
    have a2 : (2 * ((low + high) / 2 - low - 1)) * B ≤ (high - low - 1) * B := Int.mul_le_mul_of_nonneg_right (by omega) (by omega)
    omega
  · have a1 : (high - (low + high) / 2 - 1) * (2 * B) = (2 * (high - (low + high) / 2 - 1)) * B := by grind
    have a2 : (2 * (high - (low + high) / 2 - 1)) * B ≤ (high - low - 1) * B := Int.mul_le_mul_of_nonneg_right (by omega) (by omega)
    omega

/-! ### continued fractions -/
def partI (p q root : Int) : Int := if 0 < q then (p + root).fdiv q else (p + root + 1).fdiv q
def nxt (d root : Int) (s : Int × Int) : Int × Int := (partI s.1 s.2 root * s.2 - s.1, (d - (partI s.1 s.2 root * s.2 - s.1) * (partI s.1 s.2 root * s.2 - s.1)).fdiv s.2)
def cf (d root : Int) (s : Int × Int) : Nat → Int × Int
  | 0 => s
  | k + 1 => nxt d root (cf d root s k)
def cfa (d : Int) (s : Int × Int) (i : Nat) : Int := partI (cf d (rootI d) s i).1 (cf d (rootI d) s i).2 (rootI d)
/-- what the walk of expand wants -/
def ExOk (p q d : Int) (n j : Nat) : Prop := 0 ≤ d ∧ d < 2 ^ 60 ∧ rootI d * rootI d ≠ d ∧ q ≠ 0 ∧ (d - p * p).fmod q = 0 ∧ j < n ∧ n ≤ 100000 ∧ cf d (rootI d) (p, q) n = cf d (rootI d) (p, q) j ∧
  (∀ a b, a < b → b < n → cf d (rootI d) (p, q) a ≠ cf d (rootI d) (p, q) b) ∧ ∀ i, i ≤ n → (cf d (rootI d) (p, q) i).1.natAbs < 2 ^ 60 ∧ (cf d (rootI d) (p, q) i).2.natAbs < 2 ^ 60 ∧ (cf d (rootI d) (p, q) i).2 ≠ 0
def ckey (s : Int × Int) : List Key := [.inl s.1, .inl s.2]
theorem ckey_inj {s t : Int × Int} (h : ckey s = ckey t) : s = t := by
  unfold ckey at h
  injection h with h1 h2
  injection h2 with h2 _
  injection h1 with h1
  injection h2 with h2
  exact Prod.ext h1 h2
def ckv (f : Nat → Int × Int) (n : Nat) : List (List Key × V) := (List.range n).map fun i => (ckey (f i), V.int (i : Int))
theorem ckv_succ (f : Nat → Int × Int) (n : Nat) : ckv f (n + 1) = ckv f n ++ [(ckey (f n), V.int (n : Int))] := by
  unfold ckv
  rw [List.range_succ, List.map_append]
  rfl
theorem ckv_len (f : Nat → Int × Int) (n : Nat) : (ckv f n).length = n := by
  unfold ckv
  rw [List.length_map, List.length_range]
theorem valV_app {κ : Type} [DecidableEq κ] (xs : List (κ × V)) (k : κ) (v : V) (k' : κ) : valV (xs ++ [(k, v)]) k' = (match valV xs k' with | some z => some z | none => if k = k' then some v else none) := by
  unfold valV
  rw [List.find?_append]
  cases h : xs.find? fun kv => decide (kv.1 = k') with
  | some z => rfl
  | none =>
    by_cases e : k = k'
    · simp [e]
    · simp [e]
theorem ckv_none {f : Nat → Int × Int} : ∀ {n : Nat} {s : Int × Int}, (∀ i, i < n → f i ≠ s) → valV (ckv f n) (ckey s) = none
  | 0, _, _ => rfl
  | n + 1, s, h => by
    rw [ckv_succ, valV_app, ckv_none fun i hi => h i (by omega)]
    exact if_neg fun e => h n (by omega) (ckey_inj e)
theorem ckv_some {f : Nat → Int × Int} {s : Int × Int} {j : Nat} (hj : f j = s) : ∀ {n : Nat}, j < n → (∀ i, i < j → f i ≠ s) → valV (ckv f n) (ckey s) = some (.int (j : Int))
  | 0, h, _ => absurd h (by omega)
  | n + 1, h, k => by
    rw [ckv_succ, valV_app]
    by_cases e : j < n
    · rw [ckv_some hj e k]
    · have e1 : j = n := by omega
      subst e1
      rw [ckv_none k]
      exact if_pos (congrArg ckey hj)
theorem ckv_put {f : Nat → Int × Int} {n : Nat} (h : ∀ i, i < n → f i ≠ f n) : putK (ckv f n) (ckey (f n)) (.int (n : Int)) = ckv f (n + 1) := by
  unfold putK
  rw [valV_any, ckv_none h, ckv_succ]
  exact if_neg Bool.false_ne_true
/-! ### reduced pairs -/
structure Red (d root P Q : Int) : Prop where
  q0 : 0 < Q
  p1 : P ≤ root
  lo : root - P < Q
  hi : Q ≤ root + P
  dv : Q ∣ d - P * P
theorem partI_pos {p q root : Int} (h : 0 < q) : partI p q root = (p + root) / q := by
  unfold partI
  rw [if_pos h, Int.fdiv_eq_ediv_of_nonneg _ (by omega)]
theorem nxt_exact {d root P Q : Int} (h : Q ≠ 0) (dv : Q ∣ d - P * P) : (nxt d root (P, Q)).2 * Q = d - (nxt d root (P, Q)).1 * (nxt d root (P, Q)).1 := by
  obtain ⟨c, hc⟩ := dv
  unfold nxt
  show (d - (partI P Q root * Q - P) * (partI P Q root * Q - P)).fdiv Q * Q = d - (partI P Q root * Q - P) * (partI P Q root * Q - P)
  generalize partI P Q root = a
  refine Int.fdiv_mul_cancel_of_fmod_eq_zero (Int.fmod_eq_zero_of_dvd ⟨c - a * a * Q + 2 * a * P, ?_⟩)
  grind
theorem Red.step {d root P Q : Int} (r0 : 0 ≤ root) (h1 : root * root < d) (h2 : d < (root + 1) * (root + 1)) (R : Red d root P Q) : Red d root (nxt d root (P, Q)).1 (nxt d root (P, Q)).2 := by
  have ex := nxt_exact (root := root) (Int.ne_of_gt R.q0) R.dv
  obtain ⟨q0, p1, lo, hi, dv⟩ := R
  have e1 : (nxt d root (P, Q)).1 = (P + root) / Q * Q - P := by
    unfold nxt
    show partI P Q root * Q - P = _
    rw [partI_pos q0]
  generalize (nxt d root (P, Q)).1 = P' at ex e1 ⊢
  generalize (nxt d root (P, Q)).2 = Q' at ex ⊢
  have a1 : (P + root) / Q * Q ≤ P + root := Int.ediv_mul_le _ (by omega)
  have a2 : P + root < (P + root) / Q * Q + Q := by
    have z := Int.lt_ediv_add_one_mul_self (P + root) q0
    rw [Int.add_mul, Int.one_mul] at z
    exact z
  have a3 : 1 ≤ (P + root) / Q := by
    have z : 1 * Q ≤ P + root := by omega
    exact (Int.le_ediv_iff_mul_le q0).mpr z
  have a4 : 1 * Q ≤ (P + root) / Q * Q := Int.mul_le_mul_of_nonneg_right a3 (by omega)
  generalize (P + root) / Q * Q = aQ at a1 a2 a4 e1
  have b1 : P' ≤ root := by omega
  have b2 : root - Q < P' := by omega
  have b3 : -root < P' := by omega
  have b4 : Q ≤ root + P' := by omega
  have c1 : P' * P' ≤ root * root := by
    have z : 0 ≤ (root - P') * (root + P') := Int.mul_nonneg (by omega) (by omega)
    have z2 : (root - P') * (root + P') = root * root - P' * P' := by grind
    omega
  have c2 : 0 < Q' * Q := by omega
  have c3 : 0 < Q' := by
    by_cases z : 0 < Q'
    · exact z
    · have z2 : Q' * Q ≤ 0 * Q := Int.mul_le_mul_of_nonneg_right (by omega) (by omega)
      omega
  refine ⟨c3, b1, ?_, ?_, ?_⟩
  · by_cases z : root - P' < Q'
    · exact z
    · have z2 : Q' * Q ≤ (root - P') * (root + P') := Int.mul_le_mul (by omega) b4 (by omega) (by omega)
      have z3 : (root - P') * (root + P') = root * root - P' * P' := by grind
      omega
  · by_cases z : Q' ≤ root + P'
    · exact z
    · have z2 : (root + P' + 1) * (root - P' + 1) ≤ Q' * Q := Int.mul_le_mul (by omega) (by omega) (by omega) (by omega)
      have z3 : (root + P' + 1) * (root - P' + 1) = (root + 1) * (root + 1) - P' * P' := by grind
      omega
  · exact ⟨Q, by omega⟩
theorem Red.back {d root P Q P2 Q2 : Int} (R : Red d root P Q) (S : Red d root P2 Q2) (r0 : 0 ≤ root) (h1 : root * root < d) (h2 : d < (root + 1) * (root + 1)) (e : nxt d root (P, Q) = nxt d root (P2, Q2)) : P = P2 ∧ Q = Q2 := by
  have ex := nxt_exact (root := root) (Int.ne_of_gt R.q0) R.dv
  have ex2 := nxt_exact (root := root) (Int.ne_of_gt S.q0) S.dv
  have N := R.step r0 h1 h2
  have e1 : (nxt d root (P, Q)).1 = partI P Q root * Q - P := rfl
  have e2 : (nxt d root (P2, Q2)).1 = partI P2 Q2 root * Q2 - P2 := rfl
  rw [← e] at ex2 e2
  have n0 := N.q0
  generalize (nxt d root (P, Q)).1 = P' at ex ex2 e1 e2
  generalize (nxt d root (P, Q)).2 = Q' at ex ex2 n0
  have eq : Q = Q2 := Int.eq_of_mul_eq_mul_left (Int.ne_of_gt n0) (ex.trans ex2.symm)
  subst eq
  refine ⟨?_, rfl⟩
  have l1 := R.lo
  have l2 := S.lo
  have u1 := R.p1
  have u2 := S.p1
  have q0 := R.q0
  generalize partI P Q root = a at e1
  generalize partI P2 Q root = b at e2
  have e3 : (a - b) * Q = P - P2 := by
    rw [Int.sub_mul]
    omega
  by_cases z : a - b ≤ -1
  · have z2 : (a - b) * Q ≤ -1 * Q := Int.mul_le_mul_of_nonneg_right z (by omega)
    omega
  · by_cases z' : 1 ≤ a - b
    · have z2 : 1 * Q ≤ (a - b) * Q := Int.mul_le_mul_of_nonneg_right z' (by omega)
      omega
    · have z2 : a - b = 0 := by omega
      rw [z2, Int.zero_mul] at e3
      omega
/-! ### the root of d: from (0, 1) -/
section
variable {d root : Int}
theorem cf_one (hq : True) : cf d root (0, 1) 1 = (root, d - root * root) := by
  show nxt d root (0, 1) = _
  unfold nxt
  show (partI 0 1 root * 1 - 0, (d - (partI 0 1 root * 1 - 0) * (partI 0 1 root * 1 - 0)).fdiv 1) = _
  have e : partI 0 1 root * 1 - 0 = root := by
    rw [partI_pos (by decide)]
    simp
  rw [e, Int.fdiv_one]
theorem cf_red (r0 : 0 ≤ root) (h1 : root * root < d) (h2 : d < (root + 1) * (root + 1)) : ∀ k, Red d root (cf d root (0, 1) (k + 1)).1 (cf d root (0, 1) (k + 1)).2
  | 0 => by
    rw [cf_one trivial]
    have e : (root + 1) * (root + 1) = root * root + 2 * root + 1 := by grind
    exact ⟨by show 0 < d - root * root; omega, by show root ≤ root; omega, by show root - root < d - root * root; omega, by show d - root * root ≤ root + root; omega, ⟨1, by show d - root * root = (d - root * root) * 1; omega⟩⟩
  | k + 1 => (cf_red r0 h1 h2 k).step r0 h1 h2
theorem cf_exact (r0 : 0 ≤ root) (h1 : root * root < d) (h2 : d < (root + 1) * (root + 1)) : ∀ k, (cf d root (0, 1) (k + 1)).2 * (cf d root (0, 1) k).2 = d - (cf d root (0, 1) (k + 1)).1 * (cf d root (0, 1) (k + 1)).1
  | 0 => by
    rw [cf_one trivial]
    show (d - root * root) * 1 = d - root * root
    omega
  | k + 1 => by
    have R := cf_red r0 h1 h2 k
    exact nxt_exact (P := (cf d root (0, 1) (k + 1)).1) (Q := (cf d root (0, 1) (k + 1)).2) (Int.ne_of_gt R.q0) R.dv
theorem cf_again (l : Nat) (h : (cf d root (0, 1) l).2 = 1) : cf d root (0, 1) (l + 1) = cf d root (0, 1) 1 := by
  rw [cf_one trivial]
  show nxt d root (cf d root (0, 1) l) = _
  unfold nxt
  rw [h]
  generalize (cf d root (0, 1) l).1 = P
  have e : partI P 1 root * 1 - P = root := by
    rw [partI_pos (by decide)]
    simp
    omega
  rw [e, Int.fdiv_one]
theorem cf_shift (l : Nat) (h : (cf d root (0, 1) l).2 = 1) : ∀ k, cf d root (0, 1) (l + (k + 1)) = cf d root (0, 1) (k + 1)
  | 0 => cf_again l h
  | k + 1 => by
    show nxt d root (cf d root (0, 1) (l + (k + 1))) = nxt d root (cf d root (0, 1) (k + 1))
    rw [cf_shift l h k]
theorem cf_unlike (r0 : 0 ≤ root) (h1 : root * root < d) (h2 : d < (root + 1) * (root + 1)) {l : Nat} (hm : ∀ k, 1 ≤ k → k < l → (cf d root (0, 1) k).2 ≠ 1) : ∀ j i, j < i → i ≤ l → cf d root (0, 1) j ≠ cf d root (0, 1) i
  | 0, i, hij, hl, e => by
    obtain ⟨k, rfl⟩ : ∃ k, i = k + 1 := ⟨i - 1, by omega⟩
    have R := cf_red r0 h1 h2 k
    rw [← e] at R
    have a := R.lo
    have b := R.hi
    have a2 : root - 0 < 1 := a
    have b2 : (1 : Int) ≤ root + 0 := b
    omega
  | 1, i, hij, hl, e => by
    obtain ⟨k, rfl⟩ : ∃ k, i = k + 2 := ⟨i - 2, by omega⟩
    have x := cf_exact r0 h1 h2 (k + 1)
    have R := cf_red r0 h1 h2 (k + 1)
    have x2 : (cf d root (0, 1) (k + 2)).2 * (cf d root (0, 1) (k + 1)).2 = d - (cf d root (0, 1) (k + 2)).1 * (cf d root (0, 1) (k + 2)).1 := x
    rw [← e, cf_one trivial] at x2
    have x3 : (d - root * root) * (cf d root (0, 1) (k + 1)).2 = (d - root * root) * 1 := by
      have y : (d - root * root) * (cf d root (0, 1) (k + 1)).2 = d - root * root := x2
      omega
    exact hm (k + 1) (by omega) (by omega) (Int.eq_of_mul_eq_mul_left (by omega) x3)
  | j + 2, i, hij, hl, e => by
    obtain ⟨k, rfl⟩ : ∃ k, i = k + 2 := ⟨i - 2, by omega⟩
    have b := (cf_red r0 h1 h2 j).back (cf_red r0 h1 h2 k) r0 h1 h2 e
    exact cf_unlike r0 h1 h2 hm (j + 1) (k + 1) (by omega) (by omega) (Prod.ext b.1 b.2)
end
/-! ### convergents -/
def cstep (s : (Int × Int) × (Int × Int)) (a : Int) : (Int × Int) × (Int × Int) := (s.2, (a * s.2.1 + s.1.1, a * s.2.2 + s.1.2))
def cst (ns : List Int) : (Int × Int) × (Int × Int) := ns.foldl cstep ((0, 1), (1, 0))
def cvl (ns : List Int) : List (Int × Int) := (List.range ns.length).map fun i => (cst (ns.take (i + 1))).2
theorem cst_take {ns : List Int} {i : Nat} {x : Int} (h : ns[i]? = some x) : cst (ns.take (i + 1)) = cstep (cst (ns.take i)) x := by
  unfold cst
  rw [List.take_add_one, h, List.foldl_append]
  rfl
theorem cvl_take {ns : List Int} {i : Nat} (h : i < ns.length) : cvl (ns.take (i + 1)) = cvl (ns.take i) ++ [(cst (ns.take (i + 1))).2] := by
  unfold cvl
  have e1 : (ns.take (i + 1)).length = i + 1 := by rw [List.length_take]; omega
  have e2 : (ns.take i).length = i := by rw [List.length_take]; omega
  rw [e1, e2, List.range_succ, List.map_append]
  congr 1
  · refine List.map_congr_left fun k hk => ?_
    have hk' : k < i := List.mem_range.mp hk
    rw [List.take_take, List.take_take, Nat.min_eq_left (by omega), Nat.min_eq_left (by omega)]
  · show [(cst ((ns.take (i + 1)).take (i + 1))).2] = _
    rw [List.take_take, Nat.min_self]
inductive Prs (H : Hp) : List Addr → List (Int × Int) → Prop
  | nil : Prs H [] []
  | cons {a : Addr} {p : Int × Int} {as : List Addr} {ps : List (Int × Int)} : H a = some (.tup [.int p.1, .int p.2]) → Prs H as ps → Prs H (a :: as) (p :: ps)
theorem Prs.same {H H' : Hp} {as : List Addr} {ps : List (Int × Int)} (h : Prs H as ps) (s : Same H H') : Prs H' as ps := by
  induction h with
  | nil => exact .nil
  | cons e _ ih => exact .cons (s _ _ e) ih
theorem Prs.mono {H H' : Hp} {as : List Addr} {ps : List (Int × Int)} (h : Prs H as ps) (s : ∀ b xs, H b = some (.tup xs) → H' b = some (.tup xs)) : Prs H' as ps := by
  induction h with
  | nil => exact .nil
  | cons e _ ih => exact .cons (s _ _ e) ih
theorem Prs.snoc {H : Hp} {as : List Addr} {ps : List (Int × Int)} {a : Addr} {p : Int × Int} (h : Prs H as ps) (e : H a = some (.tup [.int p.1, .int p.2])) : Prs H (as ++ [a]) (ps ++ [p]) := by
  induction h with
  | nil => exact .cons e .nil
  | cons e' _ ih => exact .cons e' ih
theorem Prs.len {H : Hp} {as : List Addr} {ps : List (Int × Int)} (h : Prs H as ps) : as.length = ps.length := by
  induction h with
  | nil => rfl
  | cons _ _ ih => rw [List.length_cons, List.length_cons, ih]
def pdI (p : Int × Int) : PyData := .tuple [.int p.1, .int p.2]
theorem Prs.dp {K : PySem.W.Frag} {H : Hp} {as : List Addr} {ps : List (Int × Int)} (h : Prs H as ps) : DpAll K H (as.map V.ref) (ps.map pdI) := by
  induction h with
  | nil => exact .nil
  | cons e _ ih => exact .cons (.tup (SqT.of e) (.cons (.int _) (.cons (.int _) .nil))) ih
theorem lay_prs : ∀ ps : List (Int × Int), PyData.canLayAll0 (ps.map pdI) = true
  | [] => rfl
  | p :: ps => by
    rw [List.map_cons, PyData.canLayAll0, lay_prs ps]
    rfl
theorem depth_prs : ∀ ps : List (Int × Int), PyData.depthAll (ps.map pdI) ≤ 1
  | [] => Nat.zero_le _
  | p :: ps => by
    rw [List.map_cons, PyData.depthAll]
    have h := depth_prs ps
    have e : (pdI p).depth = 1 := by
      unfold pdI
      rw [PyData.depth]
      rfl
    omega
theorem shaped_prs (ps : List (Int × Int)) : SeqAt.shaped (.list (ps.map pdI)) = true := by
  show (PyData.canLay0 (.list (ps.map pdI)) && decide (PyData.depth (.list (ps.map pdI)) ≤ 64)) = true
  rw [Bool.and_eq_true]
  refine ⟨by rw [PyData.canLay0]; exact lay_prs ps, decide_eq_true ?_⟩
  rw [PyData.depth]
  have h := depth_prs ps
  omega
theorem Prs.at {H : Hp} {as : List Addr} {ps : List (Int × Int)} (h : Prs H as ps) : ∀ {i : Nat} {p : Int × Int}, ps[i]? = some p → ∃ a, as[i]? = some a ∧ H a = some (.tup [.int p.1, .int p.2]) := by
  induction h with
  | nil => intro i p e; simp at e
  | @cons a q as ps e _ ih =>
    intro i p e2
    cases i with
    | zero =>
      have e3 : q = p := Option.some.inj e2
      subst e3
      exact ⟨a, rfl, e⟩
    | succ i => exact ih e2
theorem at_end {α : Type} {xs : List α} {v : α} (h : xs[xs.length - 1]? = some v) : atI xs (-1) = some v := by
  have hl : 0 < xs.length := by
    cases xs with
    | nil => cases h
    | cons x r => exact Nat.succ_pos _
  have e : ixN xs.length (-1) = some (xs.length - 1) := by
    unfold ixN
    rw [if_neg (by decide), if_pos (by omega)]
    congr 1
    omega
  unfold atI
  rw [e]
  exact h
/-! ### pell -/
def aL (d : Int) (k : Nat) : List Int := (List.range k).map (cfa d (0, 1))
theorem aL_succ (d : Int) (k : Nat) : aL d (k + 1) = aL d k ++ [cfa d (0, 1) k] := by
  unfold aL
  rw [List.range_succ, List.map_append]
  rfl
theorem aL_len (d : Int) (k : Nat) : (aL d k).length = k := by
  unfold aL
  rw [List.length_map, List.length_range]
theorem aL_at {d : Int} {k i : Nat} (h : i < k) : (aL d k)[i]? = some (cfa d (0, 1) i) := by
  unfold aL
  rw [List.getElem?_map, List.getElem?_range h]
  rfl
theorem cst_aL (d : Int) (k : Nat) : cst (aL d (k + 1)) = cstep (cst (aL d k)) (cfa d (0, 1) k) := by
  unfold cst
  rw [aL_succ, List.foldl_append]
  rfl
def sg (k : Nat) : Int := if k % 2 = 0 then 1 else -1
theorem sg_succ (k : Nat) : sg (k + 1) = -sg k := by
  unfold sg
  by_cases h : k % 2 = 0
  · rw [if_pos h, if_neg (by omega)]
  · rw [if_neg h, if_pos (by omega)]
    rfl
theorem nrm_q (Q1 Q2 P P2 d a R : Int) (h0 : Q1 ≠ 0) (hR : R*Q1 = d - P*P) (hQ2 : Q2*Q1 = d - P2*P2) (hP : P2 = a*Q1 - P) : Q2 = R + a*(P - P2) := by
  have z : (Q2 - (R + a*(P-P2)))*Q1 = 0 := by grind
  rcases Int.mul_eq_zero.mp z with h | h
  · omega
  · exact absurd h h0
theorem nrm_step (a p q e d P P2 Q1 Q2 R p0 q0 : Int) (h0 : Q1 ≠ 0) (h1 : p*p - d*(q*q) = e*Q1) (h2 : p*p0 - d*(q*q0) = -(e*P)) (h3 : p0*p0 - d*(q0*q0) = -(e*R)) (hP : P2 = a*Q1 - P) (hR : R*Q1 = d - P*P) (hQ2 : Q2*Q1 = d - P2*P2) :
    (a*p+p0)*(a*p+p0) - d*((a*q+q0)*(a*q+q0)) = -(e*Q2) ∧ (a*p+p0)*p - d*((a*q+q0)*q) = e*P2 := by
  have hQ : Q2 = R + a*(P - P2) := nrm_q Q1 Q2 P P2 d a R h0 hR hQ2 hP
  clear hQ2 hR h0
  constructor <;> grind
/-- d lies between two squares, and the walk of its root comes to the denominator 1 at l first -/
structure PellOk (d : Int) (l : Nat) : Prop where
  d0 : 0 < d
  d1 : d < 10001
  ns : rootI d * rootI d ≠ d
  l0 : 1 ≤ l
  l1 : l ≤ 40000
  one : (cf d (rootI d) (0, 1) l).2 = 1
  least : ∀ k, 1 ≤ k → k < l → (cf d (rootI d) (0, 1) k).2 ≠ 1
section
variable {d : Int} {l : Nat}
theorem PellOk.sq (h : PellOk d l) : 0 ≤ rootI d ∧ rootI d * rootI d < d ∧ d < (rootI d + 1) * (rootI d + 1) ∧ rootI d ≤ 100 := by
  have h0 := h.d0
  have h1 := h.d1
  have h2 := h.ns
  obtain ⟨a, b, c⟩ := rootI_spec (n := d) (by omega)
  refine ⟨a, by omega, c, ?_⟩
  by_cases z : rootI d ≤ 100
  · exact z
  · have e : 101 * 101 ≤ rootI d * rootI d := Int.mul_le_mul (by omega) (by omega) (by omega) (by omega)
    omega
theorem PellOk.red (h : PellOk d l) (k : Nat) : Red d (rootI d) (cf d (rootI d) (0, 1) (k + 1)).1 (cf d (rootI d) (0, 1) (k + 1)).2 := by
  obtain ⟨a, b, c, e⟩ := h.sq
  exact cf_red a b c k
theorem PellOk.size (h : PellOk d l) (k : Nat) : 0 ≤ (cf d (rootI d) (0, 1) k).1 ∧ (cf d (rootI d) (0, 1) k).1 ≤ 100 ∧ 0 < (cf d (rootI d) (0, 1) k).2 ∧ (cf d (rootI d) (0, 1) k).2 ≤ 200 := by
  obtain ⟨a, b, c, e⟩ := h.sq
  cases k with
  | zero => exact ⟨by show (0 : Int) ≤ 0; omega, by show (0 : Int) ≤ 100; omega, by show (0 : Int) < 1; omega, by show (1 : Int) ≤ 200; omega⟩
  | succ k =>
    have R := h.red k
    have r1 := R.q0
    have r2 := R.p1
    have r3 := R.lo
    have r4 := R.hi
    omega
theorem PellOk.part (h : PellOk d l) (k : Nat) : 0 ≤ cfa d (0, 1) k ∧ cfa d (0, 1) k ≤ 200 := by
  obtain ⟨a, b, c, e⟩ := h.sq
  obtain ⟨s1, s2, s3, s4⟩ := h.size k
  unfold cfa
  rw [partI_pos s3]
  have z := Int.ediv_le_self (a := (cf d (rootI d) (0, 1) k).1 + rootI d) (cf d (rootI d) (0, 1) k).2 (by omega)
  exact ⟨Int.ediv_nonneg (by omega) (by omega), by omega⟩
theorem PellOk.ex (h : PellOk d l) : ExOk 0 1 d (l + 1) 1 := by
  obtain ⟨a, b, c, e⟩ := h.sq
  have h0 := h.d0
  have h1 := h.d1
  have hl := h.l0
  have hl1 := h.l1
  refine ⟨by omega, by show d < 1152921504606846976; omega, h.ns, by decide, ?_, by omega, by omega, cf_again l h.one, fun i j hij hj => cf_unlike a b c h.least i j hij (by omega), fun i _ => ?_⟩
  · exact Int.fmod_one _
  · obtain ⟨s1, s2, s3, s4⟩ := h.size i
    exact ⟨by show _ < 1152921504606846976; omega, by show _ < 1152921504606846976; omega, by omega⟩
theorem PellOk.period (h : PellOk d l) : ∀ k, cf d (rootI d) (0, 1) (k + 1) = cf d (rootI d) (0, 1) (k % l + 1) := by
  intro k
  have hl := h.l0
  induction k using Nat.strongRecOn with
  | _ k ih =>
    by_cases hk : k < l
    · rw [Nat.mod_eq_of_lt hk]
    · have e := cf_shift l h.one (k - l)
      have e2 : l + (k - l + 1) = k + 1 := by omega
      rw [e2] at e
      rw [e, ih (k - l) (by omega)]
      have e3 : k % l = (k - l) % l := Nat.mod_eq_sub_mod (by omega)
      rw [e3]
theorem PellOk.nrm (h : PellOk d l) : ∀ k, (cst (aL d k)).2.1 * (cst (aL d k)).2.1 - d * ((cst (aL d k)).2.2 * (cst (aL d k)).2.2) = sg k * (cf d (rootI d) (0, 1) k).2 ∧ (cst (aL d k)).2.1 * (cst (aL d k)).1.1 - d * ((cst (aL d k)).2.2 * (cst (aL d k)).1.2) = -(sg k * (cf d (rootI d) (0, 1) k).1) ∧
    ∃ R, (cst (aL d k)).1.1 * (cst (aL d k)).1.1 - d * ((cst (aL d k)).1.2 * (cst (aL d k)).1.2) = -(sg k * R) ∧ R * (cf d (rootI d) (0, 1) k).2 = d - (cf d (rootI d) (0, 1) k).1 * (cf d (rootI d) (0, 1) k).1
  | 0 => ⟨by show (1 : Int) * 1 - d * (0 * 0) = 1 * 1; omega, by show (1 : Int) * 0 - d * (0 * 1) = -(1 * 0); omega, d, by show (0 : Int) * 0 - d * (1 * 1) = -(1 * d); omega, by show d * 1 = d - 0 * 0; omega⟩
  | k + 1 => by
    obtain ⟨h1, h2, R, h3, h4⟩ := h.nrm k
    obtain ⟨a, b, c, e⟩ := h.sq
    have x := cf_exact a b c k
    obtain ⟨s1, s2, s3, s4⟩ := h.size k
    have hP : (cf d (rootI d) (0, 1) (k + 1)).1 = cfa d (0, 1) k * (cf d (rootI d) (0, 1) k).2 - (cf d (rootI d) (0, 1) k).1 := rfl
    obtain ⟨n1, n2⟩ := nrm_step _ _ _ _ _ _ _ _ _ _ _ _ (by omega) h1 h2 h3 hP h4 x
    rw [cst_aL, sg_succ]
    refine ⟨?_, ?_, (cf d (rootI d) (0, 1) k).2, ?_, ?_⟩
    · rw [Int.neg_mul]
      exact n1
    · rw [Int.neg_mul, Int.neg_neg]
      exact n2
    · rw [Int.neg_mul, Int.neg_neg]
      exact h1
    · rw [Int.mul_comm]
      exact x
theorem PellOk.wide (h : PellOk d l) : ∀ k, (cst (aL d k)).1.1.natAbs ≤ 2 ^ (8 * k) ∧ (cst (aL d k)).1.2.natAbs ≤ 2 ^ (8 * k) ∧ (cst (aL d k)).2.1.natAbs ≤ 2 ^ (8 * k) ∧ (cst (aL d k)).2.2.natAbs ≤ 2 ^ (8 * k)
  | 0 => by
    show Int.natAbs 0 ≤ 1 ∧ Int.natAbs 1 ≤ 1 ∧ Int.natAbs 1 ≤ 1 ∧ Int.natAbs 0 ≤ 1
    decide
  | k + 1 => by
    obtain ⟨h1, h2, h3, h4⟩ := h.wide k
    obtain ⟨a0, a1⟩ := h.part k
    rw [cst_aL]
    have e : (2 : Nat) ^ (8 * (k + 1)) = 2 ^ (8 * k) * 256 := by
      rw [Nat.mul_add, Nat.pow_add]
    rw [e]
    have st : ∀ x y : Int, x.natAbs ≤ 2 ^ (8 * k) → y.natAbs ≤ 2 ^ (8 * k) → (cfa d (0, 1) k * x + y).natAbs ≤ 2 ^ (8 * k) * 256 := by
      intro x y hx hy
      have z1 : (cfa d (0, 1) k * x).natAbs = (cfa d (0, 1) k).natAbs * x.natAbs := Int.natAbs_mul _ _
      have z2 : (cfa d (0, 1) k).natAbs * x.natAbs ≤ 200 * 2 ^ (8 * k) := Nat.mul_le_mul (by omega) hx
      generalize (2 : Nat) ^ (8 * k) = B at hx hy z2 ⊢
      omega
    exact ⟨by show (cst (aL d k)).2.1.natAbs ≤ _; omega, by show (cst (aL d k)).2.2.natAbs ≤ _; omega, st _ _ h3 h1, st _ _ h4 h2⟩
/-- how many parts pell takes -/
def pellN (l : Nat) : Nat := if l % 2 = 1 then 2 * l else l
theorem PellOk.hit (h : PellOk d l) {k : Nat} (hk : k < pellN l) : (cst (aL d (k + 1))).2.1 * (cst (aL d (k + 1))).2.1 - d * ((cst (aL d (k + 1))).2.2 * (cst (aL d (k + 1))).2.2) = 1 ↔ k + 1 = pellN l := by
  rw [(h.nrm (k + 1)).1]
  obtain ⟨s1, s2, s3, s4⟩ := h.size (k + 1)
  have hl := h.l0
  have per := h.period k
  have q1 : (cf d (rootI d) (0, 1) (k + 1)).2 = 1 ↔ (k + 1) % l = 0 := by
    by_cases z : k % l + 1 < l
    · have lm := h.least (k % l + 1) (by omega) z
      rw [← per] at lm
      have e : (k + 1) % l = k % l + 1 := by
        rw [Nat.add_mod, Nat.mod_eq_of_lt (show 1 < l by omega), Nat.mod_eq_of_lt z]
      exact ⟨fun y => absurd y lm, fun y => by omega⟩
    · have zl := Nat.mod_lt k (show 0 < l by omega)
      have e2 : k % l + 1 = l := by omega
      have e : (k + 1) % l = 0 := by
        have e3 := Nat.div_add_mod k l
        have e4 : k + 1 = l * (k / l + 1) := by
          rw [Nat.mul_add]
          omega
        rw [e4]
        exact Nat.mul_mod_right _ _
      rw [per, e2]
      exact ⟨fun _ => e, fun _ => h.one⟩
  have sgn : ∀ n, sg n = 1 ∨ sg n = -1 := fun n => by
    unfold sg
    split
    · exact .inl rfl
    · exact .inr rfl
  have s5 : sg (k + 1) * (cf d (rootI d) (0, 1) (k + 1)).2 = 1 ↔ (k + 1) % 2 = 0 ∧ (k + 1) % l = 0 := by
    rw [← q1]
    unfold sg
    by_cases z : (k + 1) % 2 = 0
    · rw [if_pos z]
      exact ⟨fun y => ⟨z, by omega⟩, fun y => by omega⟩
    · rw [if_neg z]
      exact ⟨fun y => by omega, fun y => absurd y.1 z⟩
  rw [s5]
  unfold pellN at hk ⊢
  by_cases odd : l % 2 = 1
  · rw [if_pos odd] at hk ⊢
    constructor
    · rintro ⟨y1, y2⟩
      obtain ⟨c, hc⟩ := Nat.dvd_of_mod_eq_zero y2
      have c1 : c ≠ 1 := fun z => by
        rw [z] at hc
        omega
      have c2 : c ≠ 0 := fun z => by
        rw [z] at hc
        omega
      have c3 : l * 2 ≤ l * c := Nat.mul_le_mul_left _ (by omega)
      omega
    · intro y
      rw [y]
      exact ⟨by omega, Nat.mod_eq_zero_of_dvd ⟨2, by omega⟩⟩
  · rw [if_neg odd] at hk ⊢
    constructor
    · rintro ⟨y1, y2⟩
      obtain ⟨c, hc⟩ := Nat.dvd_of_mod_eq_zero y2
      have c2 : c ≠ 0 := fun z => by
        rw [z] at hc
        omega
      have c3 : l * 1 ≤ l * c := Nat.mul_le_mul_left _ (by omega)
      omega
    · intro y
      rw [y]
      exact ⟨by omega, Nat.mod_self l⟩
end

/-! ### every d below 10,000: the walk comes to 1 within 2,500 steps -/
def runs (d root : Nat) : Nat → Nat → Nat → Bool
  | 0, _, _ => false
  | f + 1, P, Q => bif Q.beq 1 then true else runs d root f ((root + P) / Q * Q - P) ((d - ((root + P) / Q * Q - P) * ((root + P) / Q * Q - P)) / Q)
def rowS (r : Nat) : Nat → Bool
  | 0 => true
  | s + 1 => (runs (r * r + (s + 1)) r 2500 r (s + 1)) && rowS r s
def rowB (lo : Nat) : Nat → Bool
  | 0 => true
  | k + 1 => rowS (lo + k + 1) (2 * (lo + k + 1)) && rowB lo k
theorem rows_1 : rowB 0 45 = true := by decide +kernel
theorem rows_2 : rowB 45 20 = true := by decide +kernel
theorem rows_3 : rowB 65 15 = true := by decide +kernel
theorem rows_4 : rowB 80 10 = true := by decide +kernel
theorem rows_5 : rowB 90 9 = true := by decide +kernel
theorem rowS_at {r : Nat} : ∀ {n s : Nat}, rowS r n = true → 1 ≤ s → s ≤ n → runs (r * r + s) r 2500 r s = true
  | 0, s, _, h1, h2 => absurd h1 (by omega)
  | n + 1, s, h, h1, h2 => by
    unfold rowS at h
    rw [Bool.and_eq_true] at h
    by_cases e : s = n + 1
    · rw [e]
      exact h.1
    · exact rowS_at h.2 h1 (by omega)
theorem rowB_at {lo : Nat} : ∀ {n r s : Nat}, rowB lo n = true → lo + 1 ≤ r → r ≤ lo + n → 1 ≤ s → s ≤ 2 * r → runs (r * r + s) r 2500 r s = true
  | 0, r, s, _, h1, h2, _, _ => absurd h1 (by omega)
  | n + 1, r, s, h, h1, h2, h3, h4 => by
    unfold rowB at h
    rw [Bool.and_eq_true] at h
    by_cases e : r = lo + n + 1
    · subst e
      exact rowS_at h.1 h3 h4
    · exact rowB_at h.2 h1 (by omega) h3 h4
theorem rowR_at {r s : Nat} (h1 : 1 ≤ r) (h2 : r ≤ 99) (h3 : 1 ≤ s) (h4 : s ≤ 2 * r) : runs (r * r + s) r 2500 r s = true := by
  by_cases a : r ≤ 45
  · exact rowB_at rows_1 (by omega) (by omega) h3 h4
  · by_cases b : r ≤ 65
    · exact rowB_at rows_2 (by omega) (by omega) h3 h4
    · by_cases c : r ≤ 80
      · exact rowB_at rows_3 (by omega) (by omega) h3 h4
      · by_cases d : r ≤ 90
        · exact rowB_at rows_4 (by omega) (by omega) h3 h4
        · exact rowB_at rows_5 (by omega) (by omega) h3 h4
theorem runs_one {d root : Int} {dn rn : Nat} (hd : (dn : Int) = d) (hr : (rn : Int) = root) (r0 : 0 ≤ root) (h1 : root * root < d) (h2 : d < (root + 1) * (root + 1)) : ∀ (f k P Q : Nat), (P : Int) = (cf d root (0, 1) (k + 1)).1 → (Q : Int) = (cf d root (0, 1) (k + 1)).2 → runs dn rn f P Q = true →
    ∃ m, k + 1 ≤ m ∧ m < k + 1 + f ∧ (cf d root (0, 1) m).2 = 1
  | 0, _, _, _, _, _, h => by cases h
  | f + 1, k, P, Q, hP, hQ, h => by
    unfold runs at h
    by_cases e : Q = 1
    · exact ⟨k + 1, by omega, by omega, by rw [← hQ, e]; rfl⟩
    · have e2 : Q.beq 1 = false := by
        cases z : Q.beq 1 with
        | false => rfl
        | true => exact absurd (Nat.eq_of_beq_eq_true z) e
      rw [e2] at h
      have R := cf_red r0 h1 h2 k
      have N := R.step r0 h1 h2
      rw [← hP, ← hQ] at R
      have q0 := R.q0
      have x := cf_exact r0 h1 h2 (k + 1)
      have eP : (cf d root (0, 1) (k + 2)).1 = (((rn + P) / Q * Q : Nat) : Int) - (P : Int) := by
        show partI (cf d root (0, 1) (k + 1)).1 (cf d root (0, 1) (k + 1)).2 root * (cf d root (0, 1) (k + 1)).2 - (cf d root (0, 1) (k + 1)).1 = _
        rw [← hP, ← hQ, partI_pos q0, ← hr, Int.natCast_mul, Int.natCast_ediv, Int.natCast_add, Int.add_comm]
      have n1 := N.lo
      have n2 := N.hi
      change root - (cf d root (0, 1) (k + 2)).1 < (cf d root (0, 1) (k + 2)).2 at n1
      change (cf d root (0, 1) (k + 2)).2 ≤ root + (cf d root (0, 1) (k + 2)).1 at n2
      generalize (rn + P) / Q * Q = X at eP h
      have eP2 : ((X - P : Nat) : Int) = (cf d root (0, 1) (k + 2)).1 := by omega
      generalize X - P = P' at h eP2
      have eQ2 : (((dn - P' * P') / Q : Nat) : Int) = (cf d root (0, 1) (k + 2)).2 := by
        have x2 : (cf d root (0, 1) (k + 2)).2 * (cf d root (0, 1) (k + 1)).2 = d - (cf d root (0, 1) (k + 2)).1 * (cf d root (0, 1) (k + 2)).1 := x
        rw [← eP2, ← hQ] at x2
        have n3 := N.q0
        change 0 < (cf d root (0, 1) (k + 2)).2 at n3
        have x3 : 0 < (cf d root (0, 1) (k + 2)).2 * (Q : Int) := Int.mul_pos n3 (by omega)
        have x4 : ((P' * P' : Nat) : Int) = (P' : Int) * (P' : Int) := Int.natCast_mul _ _
        have x5 : ((dn - P' * P' : Nat) : Int) = (cf d root (0, 1) (k + 2)).2 * (Q : Int) := by omega
        rw [Int.natCast_ediv, x5]
        exact Int.mul_ediv_cancel _ (by omega)
      obtain ⟨m, m1, m2, m3⟩ := runs_one hd hr r0 h1 h2 f (k + 1) P' _ eP2 eQ2 h
      exact ⟨m, by omega, by omega, m3⟩
theorem least_of {p : Nat → Prop} : ∀ (n : Nat), (∃ m, 1 ≤ m ∧ m ≤ n ∧ p m) → ∃ m, 1 ≤ m ∧ m ≤ n ∧ p m ∧ ∀ k, 1 ≤ k → k < m → ¬ p k
  | 0, ⟨m, h1, h2, _⟩ => absurd h1 (by omega)
  | n + 1, ⟨m, h1, h2, h3⟩ => by
    by_cases z : ∃ m, 1 ≤ m ∧ m ≤ n ∧ p m
    · obtain ⟨k, k1, k2, k3, k4⟩ := least_of n z
      exact ⟨k, k1, by omega, k3, k4⟩
    · have e : m = n + 1 := by
        by_cases y : m ≤ n
        · exact absurd ⟨m, h1, y, h3⟩ z
        · omega
      subst e
      exact ⟨n + 1, h1, h2, h3, fun k k1 k2 k3 => z ⟨k, k1, by omega, k3⟩⟩
theorem pell_ok {d : Int} (h0 : 0 < d) (h1 : d < 10000) (h2 : rootI d * rootI d ≠ d) : ∃ l, PellOk d l ∧ pellN l ≤ 5000 := by
  obtain ⟨a, b, c⟩ := rootI_spec (n := d) (by omega)
  obtain ⟨r, hr⟩ := Int.eq_ofNat_of_zero_le a
  have b2 : rootI d * rootI d < d := by omega
  have r1 : 1 ≤ rootI d := by
    by_cases z : 1 ≤ rootI d
    · exact z
    · have e : rootI d = 0 := by omega
      rw [e] at c
      omega
  have r2 : rootI d ≤ 99 := by
    by_cases z : rootI d ≤ 99
    · exact z
    · have e : 100 * 100 ≤ rootI d * rootI d := Int.mul_le_mul (by omega) (by omega) (by omega) (by omega)
      omega
  have e : (rootI d + 1) * (rootI d + 1) = rootI d * rootI d + 2 * rootI d + 1 := by grind
  obtain ⟨s, hs⟩ := Int.eq_ofNat_of_zero_le (show 0 ≤ d - rootI d * rootI d by omega)
  have run := rowR_at (r := r) (s := s) (by omega) (by omega) (by omega) (by omega)
  have ed : ((r * r + s : Nat) : Int) = d := by
    rw [Int.natCast_add, Int.natCast_mul]
    rw [hr] at hs
    omega
  have w := runs_one (d := d) (root := rootI d) ed hr.symm a b2 c 2500 0 r s (by rw [cf_one trivial]; exact hr.symm) (by rw [cf_one trivial]; exact hs.symm) run
  obtain ⟨m, m1, m2, m3⟩ := w
  obtain ⟨l, l1, l2, l3, l4⟩ := least_of (p := fun m => (cf d (rootI d) (0, 1) m).2 = 1) 2500 ⟨m, by omega, by omega, m3⟩
  refine ⟨l, ⟨h0, by omega, h2, l1, by omega, l3, l4⟩, ?_⟩
  unfold pellN
  split <;> omega
section
variable {P : Program} {w : World} {K : PySem.W.Frag} {mg : Str → Option Value} {base : Heap} {fa : Nat → Addr} {fd : Nat → FuncData}
def spFloorRoot (_ : PySem.W.Frag) : Sp := fun vs H Q _ => ∃ n : Int, vs = [.int n] ∧ 0 ≤ n ∧ n.natAbs < 2 ^ 13000 ∧ Q (.int (rootI n)) H
theorem okFloorRoot (T : Txt K mg fa fd) : FnOk P w K mg base CX0 1 (fa 0) (fd 0) ["n"] (spFloorRoot K) := by
  refine T.F_floor_root.ok scFloorRoot (fun vs H Q E h => ?_) (fun cdv A outer s H vs Q E hr h => ?_)
  · obtain ⟨n, rfl, h0, h1, q⟩ := h
    rfl
  · obtain ⟨n, rfl, h0, h1, q⟩ := h
    refine ⟨_, (pss_one (ps_ret (pe_callBfun cr_isqrt (by rfl) T.g_isqrt (pa_cons (pv 0) pa_nil)))), ?_⟩
    exact ⟨_, rfl, _, rfl, h0, h1, q⟩
def spIsSquare (_ : PySem.W.Frag) : Sp := fun vs H Q _ => ∃ n : Int, vs = [.int n] ∧ n.natAbs < 2 ^ 13000 ∧ Q (.bl (decide (0 ≤ n ∧ rootI n * rootI n = n))) H
theorem okIsSquare (T : Txt K mg fa fd) : FnOk P w K mg base CX0 2 (fa 1) (fd 1) ["n"] (spIsSquare K) := by
  refine T.F_is_square.ok scIsSquare (fun vs H Q E h => ?_) (fun cdv A outer s H vs Q E hr h => ?_)
  · obtain ⟨n, rfl, h1, q⟩ := h
    rfl
  · obtain ⟨n, rfl, h1, q⟩ := h
    refine ⟨_, (pss_cons (ps_if (pt_cmp (pc_lt (pv 0) pe_int))
      (pss_one (ps_ret pe_bl))
      pss_nil)
      (pss_cons (ps_set (i := 1) scIsSquare.nd rfl (Or.inl rfl) (pe_call (okFloorRoot T) hr (by rfl) T.G_floor_root T.F_floor_root.kp T.B_floor_root .nil pass0 (pa_cons (pv 0) pa_nil)))
      (pss_one (ps_ret (pe_cmp (pc_eqI (pe_op op_mulW (pv 1) (pv 1)) (pv 0))))))), ?_⟩
    refine ⟨_, rfl, _, _, rfl, rfl, _, rfl, ite2 (fun e => ?_) (fun e => ?_)⟩
    · have e1 : n < 0 := of_decide_eq_true e
      have e2 : decide (0 ≤ n ∧ rootI n * rootI n = n) = false := decide_eq_false fun z => by omega
      rw [e2] at q
      exact q
    · have e1 : ¬ n < 0 := fun z => e (decide_eq_true z)
      have h0 : 0 ≤ n := by omega
      have hr := rootI_lt h0 h1
      refine ⟨_, rfl, n, rfl, h0, h1, _, rfl, _, rfl, _, _, rfl, rfl, wide_mul hr hr (by decide) (by decide) (by decide), _, rfl, _, _, rfl, rfl, ?_⟩
      have e2 : decide (0 ≤ n ∧ rootI n * rootI n = n) = decide (rootI n * rootI n = n) := by
        rw [decide_eq_decide]
        exact ⟨fun z => z.2, fun z => ⟨h0, z⟩⟩
      rw [e2] at q
      exact q
def spPartOf (_ : PySem.W.Frag) : Sp := fun vs H Q _ => ∃ p q r : Int, vs = [.int p, .int q, .int r] ∧ q ≠ 0 ∧ q.natAbs < 2 ^ 60 ∧ Q (.int (partI p q r)) H
theorem okPartOf (T : Txt K mg fa fd) : FnOk P w K mg base CX0 1 (fa 3) (fd 3) ["p", "q", "root"] (spPartOf K) := by
  refine T.F__part_of.ok scPartOf (fun vs H Q E h => ?_) (fun cdv A outer s H vs Q E hr h => ?_)
  · obtain ⟨p, q, r, rfl, h0, h1, Qd⟩ := h
    rfl
  · obtain ⟨p, q, r, rfl, h0, h1, Qd⟩ := h
    refine ⟨_, (pss_cons (ps_if (pt_cmp (pc_gt (pv 1) pe_int))
      (pss_one (ps_ret (pe_op op_fdivX (pe_op op_add (pv 0) (pv 2)) (pv 1))))
      pss_nil)
      (pss_one (ps_ret (pe_op op_fdivX (pe_op op_add (pe_op op_add (pv 0) (pv 2)) pe_int) (pv 1))))), ?_⟩
    have h2 : q.natAbs < 2 ^ 9000 := pow_up h1 (by decide)
    unfold partI at Qd
    refine ⟨_, rfl, _, _, rfl, rfl, _, rfl, way2 (fun h => ?_) (fun h => ?_)⟩
    · rw [if_pos h] at Qd
      exact ⟨_, rfl, _, rfl, _, _, rfl, rfl, _, rfl, _, _, rfl, rfl, ⟨h0, h2⟩, Qd⟩
    · rw [if_neg h] at Qd
      exact ⟨_, rfl, _, rfl, _, _, rfl, rfl, _, _, rfl, rfl, _, rfl, _, _, rfl, rfl, ⟨h0, h2⟩, Qd⟩
def spExpand (_ : PySem.W.Frag) : Sp := fun vs H Q _ => ∃ (p q d : Int) (n j : Nat), vs = [.int p, .int q, .int d] ∧ ExOk p q d n j ∧
  ∀ H' t t1 t2, Same H H' → H' t = some (.tup [.ref t1, .ref t2]) → H' t1 = some (.tup ((((List.range n).map (cfa d (p, q))).take j).map V.int)) → H' t2 = some (.tup ((((List.range n).map (cfa d (p, q))).drop j).map V.int)) → Q (.ref t) H'
theorem okExpand (T : Txt K mg fa fd) : FnOk P w K mg base CX0 3 (fa 2) (fd 2) ["p", "q", "d"] (spExpand K) := by
  refine T.F_expand.ok scExpand (fun vs H Q E h => ?_) (fun cdv A outer s H vs Q E hr h => ?_)
  · obtain ⟨p, q, d, n, j, rfl, hE, Qd⟩ := h
    rfl
  · obtain ⟨p, q, d, n, j, rfl, hE, Qd⟩ := h
    refine ⟨_, (pss_cons (ps_if (PW.pt (pw_or (pt_val (pe_call (okIsSquare T) hr (by rfl) T.G_is_square T.F_is_square.kp T.B_is_square .nil pass0 (pa_cons (pv 2) pa_nil))) (pw_or (pt_cmp (pc_eqI (pv 1) pe_int)) (pw_or1 (pt_cmp (pc_neI (pe_op op_modN (pe_op op_sub (pv 2) (pe_op op_mul (pv 0) (pv 0))) (pv 1)) pe_int))))))
      (pss_one ps_never)
      pss_nil)
      (pss_cons (ps_set (i := 3) scExpand.nd rfl (Or.inl rfl) (pe_call (okFloorRoot T) (hr.mono (by decide)) (by rfl) T.G_floor_root T.F_floor_root.kp T.B_floor_root .nil pass0 (pa_cons (pv 2) pa_nil)))
      (pss_cons (ps_set (i := 4) scExpand.nd rfl (Or.inl rfl) pe_dnewT)
      (pss_cons (ps_set (i := 5) scExpand.nd rfl (Or.inl rfl) (pe_lst pa_nil))
      (pss_cons (ps_while PassesOwn.never (pt_cmp (pc_dnotin (hu_of hr) (pe_tup (pa_cons (pv 0) (pa_cons (pv 1) pa_nil))) (pv 4)))
      (pss_cons (ps_dput (hu_of hr) (pv 4) (pe_tup (pa_cons (pv 0) (pa_cons (pv 1) pa_nil))) (pe_callB (lenQ K) (by rfl) T.m_len (by decide +kernel) (pa_cons (pv 5) pa_nil)) rfl)
        (pss_cons (ps_set (i := 6) scExpand.nd rfl (Or.inl rfl) (pe_call (okPartOf T) (hr.mono (by decide)) (by rfl) T.G__part_of T.F__part_of.kp T.B__part_of .nil pass0 (pa_cons (pv 0) (pa_cons (pv 1) (pa_cons (pv 3) pa_nil)))))
        (pss_cons (ps_expr (pe_bm PySem.F.plainAttrs_list PySem.F.slot_list_append PySem.F.type_list_append mt_append (pv 5) (pa_cons (pv 6) pa_nil)))
        (pss_cons (ps_set (i := 0) scExpand.nd rfl (Or.inl rfl) (pe_op op_sub (pe_op op_mul (pv 6) (pv 1)) (pv 0)))
        (pss_one (ps_set (i := 1) scExpand.nd rfl (Or.inl rfl) (pe_op op_fdivX (pe_op op_sub (pv 2) (pe_op op_mul (pv 0) (pv 0))) (pv 1)))))))))
      (pss_cons (ps_set (i := 7) scExpand.nd rfl (Or.inl rfl) (pe_dget (hu_of hr) (pv 4) (pe_tup (pa_cons (pv 0) (pa_cons (pv 1) pa_nil))) (fun _ _ => rfl)))
      (pss_one (ps_ret (pe_tup (pa_cons (pe_callTy (tupQ K) (by rfl) T.m_tuple (by decide +kernel) (pa_cons (pe_slice (slL K) (pv 5) po_none (po_some (pv 7))) pa_nil)) (pa_cons (pe_callTy (tupQ K) (by rfl) T.m_tuple (by decide +kernel) (pa_cons (pe_slice (slL K) (pv 5) (po_some (pv 7)) po_none) pa_nil)) pa_nil))))))))))), ?_⟩
    obtain ⟨hd0, hd1, hns, hq0, hdv, hjn, hn, hrep, hun, hsz⟩ := hE
    have hd2 : d < 1152921504606846976 := hd1
    obtain ⟨p60, q60, _⟩ := hsz 0 (by omega)
    have p61 : p.natAbs < 1152921504606846976 := p60
    have q61 : q.natAbs < 1152921504606846976 := q60
    have d13 : d.natAbs < 2 ^ 13000 := pow_up (a := 60) (by show d.natAbs < 1152921504606846976; omega) (by decide)
    refine ⟨_, rfl, d, rfl, d13, _, rfl, wayF (fun z => hns z.2) ?_⟩
    refine ⟨_, rfl, _, _, rfl, rfl, _, rfl, wayF hq0 ?_⟩
    refine ⟨_, rfl, _, rfl, _, rfl, _, _, rfl, rfl, .inl ⟨by omega, by omega⟩, _, _, rfl, rfl, _, rfl, _, _, rfl, rfl, hq0, _, _, rfl, rfl, _, rfl, wayNF hdv ?_⟩
    refine ⟨_, rfl, d, rfl, hd0, d13, ?_⟩
    refine fun dp ndp => ⟨Nat.zero_le _, fun pp npp => ?_⟩
    have npp0 : H pp = none := by
      cases e : H pp with
      | none => rfl
      | some o =>
        rw [same_upd ndp _ _ e] at npp
        cases npp
    have dpp : dp ≠ pp := ne_of_none (upd_same (H := H) (o := .dT [])) npp
    let f : Nat → Int × Int := cf d (rootI d) (p, q)
    have hf : ∀ i, f (i + 1) = nxt d (rootI d) (f i) := fun i => rfl
    refine ⟨fun m σ H' => ∃ (i : Nat) (x6 : Option V), σ = [some (.int (f i).1), some (.int (f i).2), some (.int d), some (.int (rootI d)), some (.ref dp), some (.ref pp), x6, none] ∧ i ≤ n ∧ m = n - i ∧ Same H H' ∧ H' dp = some (.dT (ckv f i)) ∧ H' pp = some (.lst (((List.range i).map (cfa d (p, q))).map V.int)),
      ⟨n, 0, none, rfl, by omega, by omega, (same_upd ndp).trans (same_upd npp), ?_, upd_same⟩, ?_⟩
    · rw [upd_ne dpp]
      exact upd_same
    rintro m σ H' ⟨i, x6, rfl, hi, rfl, hs, hdp, hpp⟩
    obtain ⟨s1, s2, s3⟩ := hsz i hi
    have s1' : (f i).1.natAbs < 1152921504606846976 := s1
    have s2' : (f i).2.natAbs < 1152921504606846976 := s2
    refine ⟨_, rfl, _, rfl, by show 2 ≤ sizeLine; decide, fun t nt => ?_⟩
    have hdp2 := same_upd (o := .tup [.int (f i).1, .int (f i).2]) nt _ _ hdp
    have hpp2 := same_upd (o := .tup [.int (f i).1, .int (f i).2]) nt _ _ hpp
    refine ⟨_, rfl, dp, _, rfl, DGet.t (k := ckey (f i)) hdp2 upd_same, ?_⟩
    by_cases hin : i < n
    · have hno : ∀ a, a < i → f a ≠ f i := fun a ha => hun a i ha hin
      rw [ckv_none hno]
      refine ⟨_, rfl, iteT ?_⟩
      refine ⟨fun σ' H2 => ∃ (x6 : Option V), σ' = [some (.int (f (i + 1)).1), some (.int (f (i + 1)).2), some (.int d), some (.int (rootI d)), some (.ref dp), some (.ref pp), x6, none] ∧ Same H H2 ∧ H2 dp = some (.dT (ckv f (i + 1))) ∧ H2 pp = some (.lst (((List.range (i + 1)).map (cfa d (p, q))).map V.int)), ?_, ?_⟩
      · rintro σ' H2 ⟨x6', e1, e2, e3, e4⟩
        exact ⟨n - (i + 1), by omega, i + 1, x6', e1, by omega, rfl, e2, e3, e4⟩
      · refine ⟨_, rfl, _, _, rfl, .inl (SqL.of hpp2), _, rfl, _, rfl, _, rfl, by show 2 ≤ sizeLine; decide, fun t2 nt2 => ?_⟩
        rw [show ((((List.range i).map (cfa d (p, q))).map V.int).length : Int) = (i : Int) by simp]
        have hdp3 := same_upd (o := .tup [.int (f i).1, .int (f i).2]) nt2 _ _ hdp2
        have hpp3 := same_upd (o := .tup [.int (f i).1, .int (f i).2]) nt2 _ _ hpp2
        have hs3 : Same H (upd (upd H' t (.tup [.int (f i).1, .int (f i).2])) t2 (.tup [.int (f i).1, .int (f i).2])) := (hs.trans (same_upd nt)).trans (same_upd nt2)
        refine ⟨dp, _, rfl, DPut.t (k := ckey (f i)) hdp3 upd_same ?_, ?_⟩
        · rw [ckv_len]
          exact Nat.lt_of_lt_of_le (Nat.lt_of_lt_of_le hin hn) (by decide)
        rw [ckv_put hno]
        generalize upd (upd H' t (.tup [.int (f i).1, .int (f i).2])) t2 (.tup [.int (f i).1, .int (f i).2]) = H4 at hdp3 hpp3 hs3 ⊢
        have hs4 : Same H (upd H4 dp (.dT (ckv f (i + 1)))) := same_mut hs3 ndp
        have hpp4 : (upd H4 dp (.dT (ckv f (i + 1)))) pp = some (.lst (((List.range i).map (cfa d (p, q))).map V.int)) := by
          rw [upd_ne dpp.symm]
          exact hpp3
        have hdp4 : (upd H4 dp (.dT (ckv f (i + 1)))) dp = some (.dT (ckv f (i + 1))) := upd_same
        generalize upd H4 dp (.dT (ckv f (i + 1))) = H5 at hs4 hpp4 hdp4 ⊢
        refine ⟨_, rfl, _, rfl, _, rfl, _, _, _, rfl, s3, s2, ?_⟩
        refine ⟨_, rfl, .inl ⟨rfl, _, SqL.of hpp4⟩, _, rfl, _, _, _, rfl, rfl, hpp4, ?_, ?_⟩
        · rw [List.length_map, List.length_map, List.length_range]
          exact Nat.lt_of_lt_of_le (Nat.lt_of_lt_of_le hin hn) (by decide)
        refine ⟨_, rfl, _, rfl, _, _, rfl, rfl, .inr ⟨by omega, by omega⟩, _, rfl, _, _, rfl, rfl, ?_⟩
        obtain ⟨w1, w2, w3⟩ := hsz (i + 1) (by omega)
        have w1' : (f (i + 1)).1.natAbs < 1152921504606846976 := w1
        have e1 : partI (f i).1 (f i).2 (rootI d) * (f i).2 - (f i).1 = (f (i + 1)).1 := rfl
        have bnd : -(2 ^ 64) < partI (f i).1 (f i).2 (rootI d) * (f i).2 - (f i).1 ∧ partI (f i).1 (f i).2 (rootI d) * (f i).2 - (f i).1 < 2 ^ 64 := by
          rw [e1]
          omega
        refine ⟨_, rfl, _, rfl, _, rfl, _, _, rfl, rfl, .inl bnd, _, _, rfl, rfl, _, rfl, _, _, rfl, rfl, ⟨s3, pow_up s2 (by decide)⟩, ?_⟩
        refine ⟨_, rfl, same_mut hs4 npp0, ?_, ?_⟩
        · rw [upd_ne dpp]
          exact hdp4
        · rw [upd_same, List.range_succ, List.map_append, List.map_append]
          rfl
    · have ein : i = n := by omega
      subst ein
      have hj : valV (ckv f i) (ckey (f i)) = some (.int (j : Int)) := ckv_some (j := j) hrep.symm hjn fun a ha => fun e => hun a j ha hjn (e.trans hrep)
      rw [hj]
      refine ⟨_, rfl, iteF ?_⟩
      have hs2 : Same H (upd H' t (.tup [.int (f i).1, .int (f i).2])) := hs.trans (same_upd nt)
      generalize upd H' t (.tup [.int (f i).1, .int (f i).2]) = H2 at hdp2 hpp2 hs2 ⊢
      refine ⟨_, rfl, _, rfl, _, rfl, by show 2 ≤ sizeLine; decide, fun t2 nt2 => ?_⟩
      have hdp3 := same_upd (o := .tup [.int (f i).1, .int (f i).2]) nt2 _ _ hdp2
      have hpp3 := same_upd (o := .tup [.int (f i).1, .int (f i).2]) nt2 _ _ hpp2
      refine ⟨dp, .int (j : Int), rfl, ?_, ?_⟩
      · rw [← hj]
        exact DGet.t (k := ckey (f i)) hdp3 upd_same
      have hs3 := hs2.trans (same_upd (o := .tup [.int (f i).1, .int (f i).2]) nt2)
      generalize upd H2 t2 (.tup [.int (f i).1, .int (f i).2]) = H3 at hpp3 hs3 ⊢
      refine ⟨_, rfl, _, rfl, _, rfl, pp, _, rfl, SqL.of hpp3, fun c nc => ⟨c, _, rfl, .inl ⟨SqL.of upd_same, fun t1 nt1 => ?_⟩⟩⟩
      rw [cut_to]
      have sA := same_upd (o := .lst ((((List.range i).map (cfa d (p, q))).take j).map V.int)) nc
      have sB := same_upd (o := .tup ((((List.range i).map (cfa d (p, q))).take j).map V.int)) nt1
      rw [cut_to] at nt1 sB
      have hpp4 := sB _ _ (sA _ _ hpp3)
      have ht1 : (upd (upd H3 c (.lst ((((List.range i).map (cfa d (p, q))).take j).map V.int))) t1 (.tup ((((List.range i).map (cfa d (p, q))).take j).map V.int))) t1 = some (.tup ((((List.range i).map (cfa d (p, q))).take j).map V.int)) := upd_same
      have hs4 := (hs3.trans sA).trans sB
      generalize upd (upd H3 c (.lst ((((List.range i).map (cfa d (p, q))).take j).map V.int))) t1 (.tup ((((List.range i).map (cfa d (p, q))).take j).map V.int)) = H4 at hpp4 ht1 hs4 ⊢
      refine ⟨_, rfl, _, rfl, _, rfl, pp, _, rfl, SqL.of hpp4, fun c2 nc2 => ⟨c2, _, rfl, .inl ⟨SqL.of upd_same, fun t3 nt3 => ?_⟩⟩⟩
      rw [cut_from, ← List.map_drop] at nt3 ⊢
      refine ⟨by show 2 ≤ sizeLine; decide, fun tt ntt => ?_⟩
      have sC := same_upd (o := .lst ((((List.range i).map (cfa d (p, q))).drop j).map V.int)) nc2
      have sD := same_upd (o := .tup ((((List.range i).map (cfa d (p, q))).drop j).map V.int)) nt3
      have sE := same_upd (o := .tup [.ref t1, .ref t3]) ntt
      exact Qd _ tt t1 t3 (((hs4.trans sC).trans sD).trans sE) upd_same (sE _ _ (sD _ _ (sC _ _ ht1))) (sE _ _ upd_same)
def spConvergents (K : PySem.W.Frag) : Sp := fun vs H Q _ => ∃ (l : Addr) (ns : List Int), vs = [.ref l] ∧ (SqL K H l (ns.map V.int) ∨ SqT K H l (ns.map V.int)) ∧ ns.length ≤ 100000 ∧ (∀ n ∈ ns, n.natAbs < 2 ^ 60) ∧
  ∀ H' r as, Same H H' → H r = none → H' r = some (.lst (as.map V.ref)) → Prs H' as (cvl ns) → Q (.ref r) H'
theorem same_seqT {K : PySem.W.Frag} {H H' : Hp} {a : Addr} {xs : List V} (e : Same H H') (h : SqT K H a xs) : SqT K H' a xs := by
  rcases h with (h | ⟨o, h⟩) | h
  · exact .inl (.inl (e _ _ h))
  · exact .inl (.inr ⟨o, e _ _ h⟩)
  · exact .inr h
theorem okConvergents (T : Txt K mg fa fd) : FnOk P w K mg base CX0 1 (fa 4) (fd 4) ["parts"] (spConvergents K) := by
  refine T.F_convergents.ok scConvergents (fun vs H Q E h => ?_) (fun cdv A outer s H vs Q E hr h => ?_)
  · obtain ⟨l, ns, rfl, hS, hlen, hb60, q⟩ := h
    rfl
  · obtain ⟨l, ns, rfl, hS, hlen, hb60, q⟩ := h
    rcases hS with hS | hS
    · refine ⟨_, (pss_cons (ps_set (i := 1) scConvergents.nd rfl (Or.inl rfl) (pe_lst pa_nil))
      (pss_cons (ps_set (i := 2) scConvergents.nd rfl (Or.inl rfl) (pe_tup (pa_cons pe_int (pa_cons pe_int pa_nil))))
      (pss_cons (ps_set (i := 3) scConvergents.nd rfl (Or.inl rfl) (pe_tup (pa_cons pe_int (pa_cons pe_int pa_nil))))
      (pss_cons (ps_for PassesOwn.never rfl (piL K (pv 0)) (pg_name (i := 4) scConvergents.nd rfl (Or.inl rfl))
      (pss_cons (ps_par (i := 2) (j := 3) (by rfl) scConvergents.nd rfl rfl (by decide) rfl rfl (pa_cons (pv 3) (pa_cons (pe_tup (pa_cons (pe_op op_add (pe_op op_mul (pv 4) (pe_ix (ixT K) (pv 3) pe_int (fun _ _ => rfl))) (pe_ix (ixT K) (pv 2) pe_int (fun _ _ => rfl))) (pa_cons (pe_op op_add (pe_op op_mul (pv 4) (pe_ix (ixT K) (pv 3) pe_int (fun _ _ => rfl))) (pe_ix (ixT K) (pv 2) pe_int (fun _ _ => rfl))) pa_nil))) pa_nil)) (by rfl))
        (pss_one (ps_expr (pe_bm PySem.F.plainAttrs_list PySem.F.slot_list_append PySem.F.type_list_append mt_append (pv 1) (pa_cons (pv 3) pa_nil))))))
      (pss_one (ps_ret (pv 1))))))), ?_⟩
      refine ⟨Nat.zero_le _, fun r nr => ⟨by show 2 ≤ sizeLine; decide, fun b0 nb0 => ⟨by show 2 ≤ sizeLine; decide, fun l0 nl0 => ?_⟩⟩⟩
      have s1 := same_upd (o := .lst []) nr
      have s2 := same_upd (o := .tup [.int 0, .int 1]) nb0
      have s3 := same_upd (o := .tup [.int 1, .int 0]) nl0
      have hr0 := s3 _ _ (s2 _ _ (upd_same (H := H) (a := r) (o := .lst [])))
      have hb0 := s3 _ _ (upd_same (H := upd H r (.lst [])) (a := b0) (o := .tup [.int 0, .int 1]))
      have hl0 := upd_same (H := upd (upd H r (.lst [])) b0 (.tup [.int 0, .int 1])) (a := l0) (o := .tup [.int 1, .int 0])
      have hs0 := (s1.trans s2).trans s3
      generalize upd (upd (upd H r (.lst [])) b0 (.tup [.int 0, .int 1])) l0 (.tup [.int 1, .int 0]) = H0 at hr0 hb0 hl0 hs0 ⊢
      refine ⟨_, rfl, l, rfl, ⟨_, hs0.seq hS⟩, for_list (K := K) (a := l) (xs := ns.map V.int) (fun i σ H' => ∃ (bA lA : Addr) (x4 : Option V) (as : List Addr), σ = [some (.ref l), some (.ref r), some (.ref bA), some (.ref lA), x4] ∧ Same H H' ∧ H' bA = some (.tup [.int (cst (ns.take i)).1.1, .int (cst (ns.take i)).1.2]) ∧ H' lA = some (.tup [.int (cst (ns.take i)).2.1, .int (cst (ns.take i)).2.2]) ∧ H' r = some (.lst (as.map V.ref)) ∧ Prs H' as (cvl (ns.take i)))
        ⟨b0, l0, none, [], rfl, hs0, hb0, hl0, hr0, .nil⟩ (fun i σ H' hi ⟨bA, lA, x4, as, e1, e2, _⟩ => e2.seq hS) (fun i x σ H' hx ⟨bA, lA, x4, as, e1, hs, hb, hl, hr, hp⟩ => ?_) (fun σ H' ⟨bA, lA, x4, as, e1, hs, hb, hl, hr, hp⟩ => ?_)⟩
      · subst e1
        rw [List.getElem?_map] at hx
        cases hn : ns[i]? with
        | none =>
          rw [hn] at hx
          cases hx
        | some n =>
          rw [hn] at hx
          cases hx
          have hil : i < ns.length := (List.getElem?_eq_some_iff.mp hn).1
          have nb : n.natAbs < 1152921504606846976 := hb60 n (List.mem_of_getElem? hn)
          refine ⟨_, rfl, _, rfl, _, rfl, _, _, _, _, rfl, rfl, SqT.of hl, atI_nat (j := 0) rfl, _, _, rfl, rfl, .inl ⟨by omega, by omega⟩, _, rfl, _, _, _, _, rfl, rfl, SqT.of hb, atI_nat (j := 0) rfl, _, _, rfl, rfl, ?_⟩
          refine ⟨_, rfl, _, rfl, _, _, _, _, rfl, rfl, SqT.of hl, atI_nat (j := 1) rfl, _, _, rfl, rfl, .inl ⟨by omega, by omega⟩, _, rfl, _, _, _, _, rfl, rfl, SqT.of hb, atI_nat (j := 1) rfl, _, _, rfl, rfl, by show 2 ≤ sizeLine; decide, fun t nt => ⟨_, _, rfl, ?_⟩⟩
          have st := cst_take hn
          have sa := same_upd (o := .tup [.int (n * (cst (ns.take i)).2.1 + (cst (ns.take i)).1.1), .int (n * (cst (ns.take i)).2.2 + (cst (ns.take i)).1.2)]) nt
          have hr2 := sa _ _ hr
          refine ⟨_, rfl, .inl ⟨rfl, _, SqL.of hr2⟩, _, rfl, _, _, _, rfl, rfl, hr2, ?_, ?_⟩
          · rw [List.length_map, hp.len]
            unfold cvl
            rw [List.length_map, List.length_range, List.length_take]
            exact Nat.lt_of_lt_of_le (show min i ns.length < 100000 by omega) (by decide)
          have tr : t ≠ r := (ne_of_none hr nt).symm
          have keep : ∀ b xs, (upd H' t (.tup [.int (n * (cst (ns.take i)).2.1 + (cst (ns.take i)).1.1), .int (n * (cst (ns.take i)).2.2 + (cst (ns.take i)).1.2)])) b = some (.tup xs) → (upd (upd H' t (.tup [.int (n * (cst (ns.take i)).2.1 + (cst (ns.take i)).1.1), .int (n * (cst (ns.take i)).2.2 + (cst (ns.take i)).1.2)])) r (.lst (as.map V.ref ++ [.ref t]))) b = some (.tup xs) := fun b xs e => by
            rw [upd_ne (ne_of e hr2 (by intro z; cases z))]
            exact e
          refine ⟨lA, t, some (.int n), as ++ [t], rfl, same_mut (hs.trans sa) nr, ?_, ?_, ?_, ?_⟩
          · rw [st]
            exact keep _ _ (sa _ _ hl)
          · rw [st]
            exact keep _ _ upd_same
          · rw [upd_same, List.map_append]
            rfl
          · rw [cvl_take hil]
            refine ((hp.same sa).mono keep).snoc ?_
            rw [st]
            exact keep _ _ upd_same
      · subst e1
        rw [List.length_map, List.take_length] at hp
        exact ⟨_, rfl, q _ r as hs nr hr hp⟩
    · refine ⟨_, (pss_cons (ps_set (i := 1) scConvergents.nd rfl (Or.inl rfl) (pe_lst pa_nil))
      (pss_cons (ps_set (i := 2) scConvergents.nd rfl (Or.inl rfl) (pe_tup (pa_cons pe_int (pa_cons pe_int pa_nil))))
      (pss_cons (ps_set (i := 3) scConvergents.nd rfl (Or.inl rfl) (pe_tup (pa_cons pe_int (pa_cons pe_int pa_nil))))
      (pss_cons (ps_for PassesOwn.never rfl (piT K (pv 0)) (pg_name (i := 4) scConvergents.nd rfl (Or.inl rfl))
      (pss_cons (ps_par (i := 2) (j := 3) (by rfl) scConvergents.nd rfl rfl (by decide) rfl rfl (pa_cons (pv 3) (pa_cons (pe_tup (pa_cons (pe_op op_add (pe_op op_mul (pv 4) (pe_ix (ixT K) (pv 3) pe_int (fun _ _ => rfl))) (pe_ix (ixT K) (pv 2) pe_int (fun _ _ => rfl))) (pa_cons (pe_op op_add (pe_op op_mul (pv 4) (pe_ix (ixT K) (pv 3) pe_int (fun _ _ => rfl))) (pe_ix (ixT K) (pv 2) pe_int (fun _ _ => rfl))) pa_nil))) pa_nil)) (by rfl))
        (pss_one (ps_expr (pe_bm PySem.F.plainAttrs_list PySem.F.slot_list_append PySem.F.type_list_append mt_append (pv 1) (pa_cons (pv 3) pa_nil))))))
      (pss_one (ps_ret (pv 1))))))), ?_⟩
      refine ⟨Nat.zero_le _, fun r nr => ⟨by show 2 ≤ sizeLine; decide, fun b0 nb0 => ⟨by show 2 ≤ sizeLine; decide, fun l0 nl0 => ?_⟩⟩⟩
      have s1 := same_upd (o := .lst []) nr
      have s2 := same_upd (o := .tup [.int 0, .int 1]) nb0
      have s3 := same_upd (o := .tup [.int 1, .int 0]) nl0
      have hr0 := s3 _ _ (s2 _ _ (upd_same (H := H) (a := r) (o := .lst [])))
      have hb0 := s3 _ _ (upd_same (H := upd H r (.lst [])) (a := b0) (o := .tup [.int 0, .int 1]))
      have hl0 := upd_same (H := upd (upd H r (.lst [])) b0 (.tup [.int 0, .int 1])) (a := l0) (o := .tup [.int 1, .int 0])
      have hs0 := (s1.trans s2).trans s3
      generalize upd (upd (upd H r (.lst [])) b0 (.tup [.int 0, .int 1])) l0 (.tup [.int 1, .int 0]) = H0 at hr0 hb0 hl0 hs0 ⊢
      refine ⟨_, rfl, l, rfl, ⟨_, same_seqT hs0 hS⟩, for_tup (K := K) (a := l) (xs := ns.map V.int) (fun i σ H' => ∃ (bA lA : Addr) (x4 : Option V) (as : List Addr), σ = [some (.ref l), some (.ref r), some (.ref bA), some (.ref lA), x4] ∧ Same H H' ∧ H' bA = some (.tup [.int (cst (ns.take i)).1.1, .int (cst (ns.take i)).1.2]) ∧ H' lA = some (.tup [.int (cst (ns.take i)).2.1, .int (cst (ns.take i)).2.2]) ∧ H' r = some (.lst (as.map V.ref)) ∧ Prs H' as (cvl (ns.take i)))
        ⟨b0, l0, none, [], rfl, hs0, hb0, hl0, hr0, .nil⟩ (fun i σ H' hi ⟨bA, lA, x4, as, e1, e2, _⟩ => same_seqT e2 hS) (fun i x σ H' hx ⟨bA, lA, x4, as, e1, hs, hb, hl, hr, hp⟩ => ?_) (fun σ H' ⟨bA, lA, x4, as, e1, hs, hb, hl, hr, hp⟩ => ?_)⟩
      · subst e1
        rw [List.getElem?_map] at hx
        cases hn : ns[i]? with
        | none =>
          rw [hn] at hx
          cases hx
        | some n =>
          rw [hn] at hx
          cases hx
          have hil : i < ns.length := (List.getElem?_eq_some_iff.mp hn).1
          have nb : n.natAbs < 1152921504606846976 := hb60 n (List.mem_of_getElem? hn)
          refine ⟨_, rfl, _, rfl, _, rfl, _, _, _, _, rfl, rfl, SqT.of hl, atI_nat (j := 0) rfl, _, _, rfl, rfl, .inl ⟨by omega, by omega⟩, _, rfl, _, _, _, _, rfl, rfl, SqT.of hb, atI_nat (j := 0) rfl, _, _, rfl, rfl, ?_⟩
          refine ⟨_, rfl, _, rfl, _, _, _, _, rfl, rfl, SqT.of hl, atI_nat (j := 1) rfl, _, _, rfl, rfl, .inl ⟨by omega, by omega⟩, _, rfl, _, _, _, _, rfl, rfl, SqT.of hb, atI_nat (j := 1) rfl, _, _, rfl, rfl, by show 2 ≤ sizeLine; decide, fun t nt => ⟨_, _, rfl, ?_⟩⟩
          have st := cst_take hn
          have sa := same_upd (o := .tup [.int (n * (cst (ns.take i)).2.1 + (cst (ns.take i)).1.1), .int (n * (cst (ns.take i)).2.2 + (cst (ns.take i)).1.2)]) nt
          have hr2 := sa _ _ hr
          refine ⟨_, rfl, .inl ⟨rfl, _, SqL.of hr2⟩, _, rfl, _, _, _, rfl, rfl, hr2, ?_, ?_⟩
          · rw [List.length_map, hp.len]
            unfold cvl
            rw [List.length_map, List.length_range, List.length_take]
            exact Nat.lt_of_lt_of_le (show min i ns.length < 100000 by omega) (by decide)
          have tr : t ≠ r := (ne_of_none hr nt).symm
          have keep : ∀ b xs, (upd H' t (.tup [.int (n * (cst (ns.take i)).2.1 + (cst (ns.take i)).1.1), .int (n * (cst (ns.take i)).2.2 + (cst (ns.take i)).1.2)])) b = some (.tup xs) → (upd (upd H' t (.tup [.int (n * (cst (ns.take i)).2.1 + (cst (ns.take i)).1.1), .int (n * (cst (ns.take i)).2.2 + (cst (ns.take i)).1.2)])) r (.lst (as.map V.ref ++ [.ref t]))) b = some (.tup xs) := fun b xs e => by
            rw [upd_ne (ne_of e hr2 (by intro z; cases z))]
            exact e
          refine ⟨lA, t, some (.int n), as ++ [t], rfl, same_mut (hs.trans sa) nr, ?_, ?_, ?_, ?_⟩
          · rw [st]
            exact keep _ _ (sa _ _ hl)
          · rw [st]
            exact keep _ _ upd_same
          · rw [upd_same, List.map_append]
            rfl
          · rw [cvl_take hil]
            refine ((hp.same sa).mono keep).snoc ?_
            rw [st]
            exact keep _ _ upd_same
      · subst e1
        rw [List.length_map, List.take_length] at hp
        exact ⟨_, rfl, q _ r as hs nr hr hp⟩
def spPartAt (K : PySem.W.Frag) : Sp := fun vs H Q _ => ∃ (t t1 t2 : Addr) (i : Nat) (xs ys : List Int) (v : Int), vs = [.ref t, .int (i : Int)] ∧ H t = some (.tup [.ref t1, .ref t2]) ∧ H t1 = some (.tup (xs.map V.int)) ∧ H t2 = some (.tup (ys.map V.int)) ∧ 0 < ys.length ∧
  (i < xs.length → xs[i]? = some v) ∧ (xs.length ≤ i → ys[(i - xs.length) % ys.length]? = some v) ∧ Q (.int v) H
theorem okPartAt (T : Txt K mg fa fd) : FnOk P w K mg base CX0 1 (fa 5) (fd 5) ["expansion", "index"] (spPartAt K) := by
  refine T.F_part_at.ok scPartAt (fun vs H Q E h => ?_) (fun cdv A outer s H vs Q E hr h => ?_)
  · obtain ⟨t, t1, t2, i, xs, ys, v, rfl, ht, h1, h2, hy, hv1, hv2, q⟩ := h
    rfl
  · obtain ⟨t, t1, t2, i, xs, ys, v, rfl, ht, h1, h2, hy, hv1, hv2, q⟩ := h
    refine ⟨_, (pss_cons (ps_asg (pv 0) (pg_tup (by rfl) (pgs_cons (pg_name (i := 2) scPartAt.nd rfl (Or.inl rfl)) (pgs_cons (pg_name (i := 3) scPartAt.nd rfl (Or.inl rfl)) pgs_nil))))
      (pss_cons (ps_if (pt_cmp (pc_lt (pv 1) (pe_callB (lenQ K) (by rfl) T.m_len (by decide +kernel) (pa_cons (pv 2) pa_nil))))
      (pss_one (ps_ret (pe_ix (ixT K) (pv 2) (pv 1) (fun _ _ => rfl))))
      pss_nil)
      (pss_one (ps_ret (pe_ix (ixT K) (pv 3) (pe_op op_mod (pe_op op_sub (pv 1) (pe_callB (lenQ K) (by rfl) T.m_len (by decide +kernel) (pa_cons (pv 2) pa_nil))) (pe_callB (lenQ K) (by rfl) T.m_len (by decide +kernel) (pa_cons (pv 3) pa_nil))) (fun _ _ => rfl)))))), ?_⟩
    refine ⟨_, rfl, t, _, rfl, SqT.of ht, rfl, _, _, rfl, _, _, rfl, rfl, ?_⟩
    refine ⟨_, rfl, _, rfl, _, _, rfl, .inr (SqT.of h1), _, _, rfl, rfl, _, rfl, way2 (fun h => ?_) (fun h => ?_)⟩
    · rw [List.length_map] at h
      have e := hv1 (by omega)
      exact ⟨_, rfl, _, rfl, _, _, _, _, rfl, rfl, SqT.of h1, atI_nat (by rw [List.getElem?_map, e]; rfl), q⟩
    · rw [List.length_map] at h
      have e := hv2 (by omega)
      refine ⟨_, rfl, _, rfl, _, rfl, _, _, rfl, .inr (SqT.of h1), _, _, rfl, rfl, _, rfl, _, _, rfl, .inr (SqT.of h2), _, _, rfl, rfl, ?_, _, _, _, _, rfl, rfl, SqT.of h2, at_of (j := (i - xs.length) % ys.length) ?_ (by rw [List.getElem?_map, e]; rfl), q⟩
      · show (0 : Int) < ((ys.map V.int).length : Int)
        rw [List.length_map]
        omega
      · rw [List.length_map, List.length_map, show (i : Int) - (xs.length : Int) = ((i - xs.length : Nat) : Int) by omega]
        exact (Int.natCast_emod _ _).symm
def spEvenTurn (_ : PySem.W.Frag) : Sp := fun vs H Q _ => ∃ (d : Int) (l : Nat), vs = [.int 0, .int 1, .int d] ∧ PellOk d l ∧ ∀ H' t, Same H H' → H' t = some (.tup [.int (cst (aL d (pellN l))).2.1, .int (cst (aL d (pellN l))).2.2]) → Q (.ref t) H'
theorem okEvenTurn (T : Txt K mg fa fd) : FnOk P w K mg base CX0 4 (fa 6) (fd 6) ["p", "q", "d"] (spEvenTurn K) := by
  refine T.F_even_turn.ok scEvenTurn (fun vs H Q E h => ?_) (fun cdv A outer s H vs Q E hr h => ?_)
  · obtain ⟨d, l, rfl, hP, q⟩ := h
    rfl
  · obtain ⟨d, l, rfl, hP, q⟩ := h
    refine ⟨_, (pss_cons (ps_set (i := 3) scEvenTurn.nd rfl (Or.inr rfl) (pe_call (okExpand T) hr (by rfl) T.G_expand T.F_expand.kp T.B_expand .nil pass0 (pa_cons (pv 0) (pa_cons (pv 1) (pa_cons (pv 2) pa_nil)))))
      (pss_cons (ps_set (i := 4) scEvenTurn.nd rfl (Or.inl rfl) (pe_callB (lenQ K) (by rfl) T.m_len (by decide +kernel) (pa_cons (pe_ix (ixT K) (pv 3) pe_int (fun _ _ => rfl)) pa_nil)))
      (C8.pss_cut (ps_if (pt_cmp (pc_eqI (pe_op op_mod (pv 4) pe_int) pe_int))
      (pss_one (ps_set (i := 4) scEvenTurn.nd rfl (Or.inl rfl) (pe_op op_mul pe_int (pv 4))))
      pss_nil)
      (pss_one (ps_ret (pe_ix (ixL K) (pe_call (okConvergents T) (hr.mono (by decide)) (by rfl) T.G_convergents T.F_convergents.kp T.B_convergents .nil pass0 (pa_cons (pe_lc (own := [("index", 5)]) (g := gName 5) (tt := tYes) rfl scEvenTurn.nd (pi_range1 (by rfl) T.m_range (pa_cons (pv 4) pa_nil)) (blkOk_by (own := [("index", 5)]) (N := ["p", "q", "d", "expansion", "many", "index"]) (sc := defScope sEvenTurn) (by decide +kernel)) (fun _ _ _ _ _ => (pg_name (i := 5) scEvenTurn.nd rfl (Or.inl rfl))) (fun _ _ _ _ _ => pts_nil) (fun _ _ _ _ _ => (pe_call (okPartAt T) (hr.mono (by decide)) (by rfl) T.G_part_at T.F_part_at.kp T.B_part_at .nil pass0 (pa_cons (pv 3) (pa_cons (pv 5) pa_nil))))) pa_nil)) (pe_un un_neg pe_int) (fun _ _ => rfl))))))), ?_⟩
    have hl0 := hP.l0
    have hl1 := hP.l1
    refine ⟨_, rfl, _, rfl, _, rfl, 0, 1, d, l + 1, 1, rfl, hP.ex, fun H1 t t1 t2 s1 ht ht1 ht2 => ?_⟩
    change H1 t1 = some (.tup (((aL d (l + 1)).take 1).map V.int)) at ht1
    change H1 t2 = some (.tup (((aL d (l + 1)).drop 1).map V.int)) at ht2
    refine ⟨_, rfl, _, _, _, _, rfl, rfl, SqT.of ht, atI_nat (j := 1) rfl, _, _, rfl, .inr (SqT.of ht2), ?_⟩
    have len2 : ((((aL d (l + 1)).drop 1).map V.int).length : Int) = (l : Int) := by
      rw [List.length_map, List.length_drop, aL_len]
      omega
    rw [len2]
    refine ⟨fun σ H' => σ = [some (.int 0), some (.int 1), some (.int d), some (.ref t), some (.int ((pellN l : Nat) : Int)), none] ∧ H' = H1, ?_, ?_⟩
    · refine ⟨_, rfl, _, _, rfl, rfl, by show (0 : Int) < 2; decide, _, _, rfl, rfl, _, rfl, way2 (fun h => ?_) (fun h => ?_)⟩
      · refine ⟨_, rfl, _, _, rfl, rfl, .inl ⟨by decide, by decide⟩, ?_, rfl⟩
        have e : pellN l = 2 * l := by
          unfold pellN
          rw [if_pos (by omega)]
        rw [e]
        rfl
      · refine ⟨?_, rfl⟩
        have e : pellN l = l := by
          unfold pellN
          rw [if_neg (by omega)]
        rw [e]
        rfl
    · rintro σ H' ⟨rfl, rfl⟩
      have pn : 1 ≤ pellN l ∧ pellN l ≤ 80000 := by
        unfold pellN
        split <;> omega
      refine ⟨_, rfl, _, rfl, by omega, by omega, fun D nD => ?_⟩
      have eN : ((pellN l : Nat) : Int).toNat = pellN l := rfl
      rw [eN]
      refine lc_range (lo := 0) (n := pellN l) (fun i H2 => Same H' H2 ∧ H2 D = some (.lst ((aL d i).map V.int)) ∧ Same H H2) ⟨same_upd nD, upd_same, s1.trans (same_upd nD)⟩ (fun i H2 hi ⟨a1, a2, a3⟩ => ?_) (fun H2 ⟨a1, a2, a3⟩ => ?_)
      · refine ⟨rfl, ?_⟩
        dsimp only [tYes]
        rw [if_pos rfl]
        refine ⟨_, rfl, _, rfl, t, t1, t2, i, (aL d (l + 1)).take 1, (aL d (l + 1)).drop 1, cfa d (0, 1) i, ?_, a1 _ _ ht, a1 _ _ ht1, a1 _ _ ht2, ?_, ?_, ?_, ?_⟩
        · exact congrArg (fun z : Int => [V.ref t, V.int z]) (Int.zero_add _)
        · rw [List.length_drop, aL_len]
          omega
        · intro h
          rw [List.length_take, aL_len] at h
          have e : i = 0 := by omega
          subst e
          rw [List.getElem?_take_of_lt (by omega)]
          exact aL_at (by omega)
        · intro h
          rw [List.length_take, aL_len] at h
          rw [List.length_take, aL_len, List.length_drop, aL_len, List.getElem?_drop, Nat.min_eq_left (by omega), Nat.add_sub_cancel]
          have hm := Nat.mod_lt (i - 1) (show 0 < l by omega)
          rw [aL_at (by omega)]
          have e := hP.period (i - 1)
          have e2 : i - 1 + 1 = i := by omega
          rw [e2] at e
          unfold cfa
          rw [e, Nat.add_comm 1]
        · refine ⟨_, a2, ?_, fun b o e => ?_, ?_, fun b o e => ?_⟩
          · rw [List.length_map, aL_len]
            exact Nat.lt_of_lt_of_le (show i < 100000 by omega) (by decide)
          · rw [upd_ne (ne_of_none e nD)]
            exact a1 _ _ e
          · rw [upd_same, aL_succ, List.map_append]
            rfl
          · have nD0 : H D = none := by
              cases e1 : H D with
              | none => rfl
              | some o =>
                rw [s1 _ _ e1] at nD
                cases nD
            rw [upd_ne (ne_of_none e nD0)]
            exact a3 _ _ e
      · refine ⟨D, aL d (pellN l), rfl, .inl (SqL.of a2), by rw [aL_len]; omega, fun n hn => ?_, fun H3 r as s3 nr hr hp => ?_⟩
        · obtain ⟨k, _, rfl⟩ := List.mem_map.mp hn
          obtain ⟨p0, p1⟩ := hP.part k
          show _ < 1152921504606846976
          omega
        · have lc : (cvl (aL d (pellN l))).length = pellN l := by
            unfold cvl
            rw [List.length_map, List.length_range, aL_len]
          have last : (cvl (aL d (pellN l)))[pellN l - 1]? = some (cst (aL d (pellN l))).2 := by
            unfold cvl
            rw [List.getElem?_map, List.getElem?_range (by rw [aL_len]; omega)]
            show some (cst ((aL d (pellN l)).take (pellN l - 1 + 1))).2 = _
            rw [List.take_of_length_le (by rw [aL_len]; omega)]
          obtain ⟨a, ha1, ha2⟩ := hp.at last
          refine ⟨_, rfl, _, _, _, _, rfl, rfl, SqL.of hr, at_end ?_, q _ a (a3.trans s3) ha2⟩
          rw [List.length_map, hp.len, lc, List.getElem?_map, ha1]
          rfl
def spPell (_ : PySem.W.Frag) : Sp := fun vs H Q _ => ∃ (d : Int) (l : Nat), vs = [.int d] ∧ PellOk d l ∧ ∀ H' t, Same H H' → H' t = some (.tup [.int (cst (aL d (pellN l))).2.1, .int (cst (aL d (pellN l))).2.2]) → Q (.ref t) H'
theorem okPell (T : Txt K mg fa fd) : FnOk P w K mg base CX0 5 (fa 7) (fd 7) ["d"] (spPell K) := by
  refine T.F_pell.ok scPell (fun vs H Q E h => ?_) (fun cdv A outer s H vs Q E hr h => ?_)
  · obtain ⟨d, l, rfl, hP, q⟩ := h
    rfl
  · obtain ⟨d, l, rfl, hP, q⟩ := h
    refine ⟨_, (pss_one (ps_ret (pe_call (okEvenTurn T) hr (by rfl) T.G_even_turn T.F_even_turn.kp T.B_even_turn .nil pass0 (pa_cons pe_int (pa_cons pe_int (pa_cons (pv 0) pa_nil)))))), ?_⟩
    exact ⟨_, rfl, d, l, rfl, hP, q⟩
def spLawCell (K : PySem.W.Frag) : Sp := fun vs H Q _ => ∃ (l : Addr) (ns : List Int) (j : Nat), vs = [.ref l, .int (j : Int)] ∧ SqL K H l (ns.map V.int) ∧ ∀ v : Int, Q (.int v) H
theorem okLawCell (T : Txt K mg fa fd) : FnOk P w K mg base CX0 1 (fa 8) (fd 8) ["script", "k"] (spLawCell K) := by
  refine T.F__law_cell.ok scLawCell (fun vs H Q E h => ?_) (fun cdv A outer s H vs Q E hr h => ?_)
  · obtain ⟨l, ns, j, rfl, hS, q⟩ := h
    rfl
  · obtain ⟨l, ns, j, rfl, hS, q⟩ := h
    refine ⟨_, (pss_cons (ps_if (pt_cmp (pc_lt (pv 1) (pe_callB (lenQ K) (by rfl) T.m_len (by decide +kernel) (pa_cons (pv 0) pa_nil))))
      (pss_one (ps_ret (pe_ix (ixL K) (pv 0) (pv 1) (fun _ _ => rfl))))
      pss_nil)
      (pss_one (ps_ret pe_int))), ?_⟩
    refine ⟨_, rfl, _, rfl, _, _, rfl, .inl hS, _, _, rfl, rfl, _, rfl, ite2 (fun e => ?_) (fun e => ?_)⟩
    · have e1 : (j : Int) < ((ns.map V.int).length : Int) := of_decide_eq_true e
      have hj : j < ns.length := by
        rw [List.length_map] at e1
        omega
      exact ⟨_, rfl, _, rfl, _, _, _, _, rfl, rfl, hS, atI_nat (by rw [List.getElem?_map, List.getElem?_eq_getElem hj]; rfl), q _⟩
    · exact q 0
def spLawNumbers (K : PySem.W.Frag) : Sp := fun vs H Q _ => ∃ (c : Int) (m : Nat), vs = [.int c, .int (m : Int)] ∧ m ≤ 100 ∧
  ∀ H' p (ns : List Int), Same H H' → H p = none → H' p = some (.lst (ns.map V.int)) → ns.length = m → (∀ n ∈ ns, 0 ≤ n ∧ n < 1000) → Q (.ref p) H'
theorem okLawNumbers (T : Txt K mg fa fd) : FnOk P w K mg base CX0 1 (fa 9) (fd 9) ["cell", "many"] (spLawNumbers K) := by
  refine T.F__law_numbers.ok scLawNumbers (fun vs H Q E h => ?_) (fun cdv A outer s H vs Q E hr h => ?_)
  · obtain ⟨c, m, rfl, hm, q⟩ := h
    rfl
  · obtain ⟨c, m, rfl, hm, q⟩ := h
    refine ⟨_, (pss_cons (ps_set (i := 2) scLawNumbers.nd rfl (Or.inl rfl) (pe_callB call_abs (by rfl) T.m_abs (by decide +kernel) (pa_cons (pv 0) pa_nil)))
      (pss_cons (ps_set (i := 3) scLawNumbers.nd rfl (Or.inl rfl) (pv 2))
      (pss_cons (ps_set (i := 4) scLawNumbers.nd rfl (Or.inl rfl) (pe_lst pa_nil))
      (pss_cons (ps_for PassesOwn.never rfl (pi_range1 (by rfl) T.m_range (pa_cons (pv 1) pa_nil)) (pg_name (i := 5) scLawNumbers.nd rfl (Or.inl rfl))
      (pss_one (ps_if (PW.pt (pw_and (pt_cmp (pc_ge (pv 3) (pe_op op_pow pe_int pe_int))) (pw_and1 (pt_cmp (pc_gt (pv 2) pe_int)))))
        (pss_cons (ps_expr (pe_bm PySem.F.plainAttrs_list PySem.F.slot_list_append PySem.F.type_list_append mt_append (pv 4) (pa_cons (pe_op op_mod (pe_callTy call_int1 (by rfl) T.m_int (by decide +kernel) (pa_cons (pv 2) pa_nil)) pe_int) pa_nil)))
          (pss_one (ps_set (i := 2) scLawNumbers.nd rfl (Or.inl rfl) (pe_op op_fdiv (pv 2) pe_int))))
        (pss_cons (ps_set (i := 6) scLawNumbers.nd rfl (Or.inl rfl) (pe_op op_mod (pe_callTy call_int1 (by rfl) T.m_int (by decide +kernel) (pa_cons (pe_op op_add (pe_op op_add (pe_op op_mul (pv 3) pe_int) (pe_op op_mul (pv 5) pe_int)) pe_int) pa_nil)) pe_int))
          (pss_cons (ps_set (i := 6) scLawNumbers.nd rfl (Or.inl rfl) (pe_op op_mod (pe_callTy call_int1 (by rfl) T.m_int (by decide +kernel) (pa_cons (pe_op op_add (pe_op op_add (pe_op op_mul (pv 6) (pv 6)) (pe_op op_mul pe_int (pv 5))) pe_int) pa_nil)) pe_int))
          (pss_one (ps_expr (pe_bm PySem.F.plainAttrs_list PySem.F.slot_list_append PySem.F.type_list_append mt_append (pv 4) (pa_cons (pe_op op_mod (pe_callTy call_int1 (by rfl) T.m_int (by decide +kernel) (pa_cons (pe_op op_fdiv (pv 6) pe_int) pa_nil)) pe_int) pa_nil)))))))))
      (pss_one (ps_ret (pv 4))))))), ?_⟩
    refine ⟨_, rfl, _, rfl, _, rfl, Nat.zero_le _, fun o no => ?_⟩
    refine ⟨_, rfl, _, rfl, by omega, by omega, for_range (lo := 0) (n := m) (fun i σ H' => ∃ (rest span : Int) (x5 x6 : Option V) (ns : List Int), σ = [some (.int c), some (.int (m : Int)), some (.int rest), some (.int span), some (.ref o), x5, x6] ∧ Same H H' ∧ H' o = some (.lst (ns.map V.int)) ∧ ns.length = i ∧ ∀ n ∈ ns, 0 ≤ n ∧ n < 1000)
      ⟨_, _, _, _, [], rfl, same_upd no, upd_same, rfl, fun n h => nomatch h⟩ (fun i σ H' hi ⟨rest, span, x5, x6, ns, hσ, hs, ho, hl, hb⟩ => ?_) (fun σ H' ⟨rest, span, x5, x6, ns, hσ, hs, ho, hl, hb⟩ => ?_)⟩
    · subst hσ
      have sz : (ns.map V.int).length < sizeLine := by
        rw [List.length_map]
        exact small1000 (by omega)
      have app : ∀ r : Int, 0 ≤ r → r < 1000 → (upd H' o (.lst (ns.map V.int ++ [V.int r]))) o = some (.lst ((ns ++ [r]).map V.int)) ∧ (ns ++ [r]).length = i + 1 ∧ ∀ n ∈ ns ++ [r], 0 ≤ n ∧ n < 1000 := fun r h0 h1 => by
        refine ⟨by rw [upd_same, List.map_append]; rfl, by rw [List.length_append, hl]; rfl, fun n hn => ?_⟩
        rcases List.mem_append.mp hn with hn | hn
        · exact hb n hn
        · rw [List.mem_singleton.mp hn]
          exact ⟨h0, h1⟩
      refine ⟨_, rfl, _, _, rfl, rfl, ⟨by decide, by decide, by decide⟩, _, _, rfl, rfl, _, rfl, ?_⟩
      have tl : ∀ (D : Ends) (rest' : Int) (x5' x6' : Option V) (r : Int), 0 ≤ r → r < 1000 → (∀ σ' H2, (∃ (rest span : Int) (x5 x6 : Option V) (ns : List Int), σ' = [some (.int c), some (.int (m : Int)), some (.int rest), some (.int span), some (.ref o), x5, x6] ∧ Same H H2 ∧ H2 o = some (.lst (ns.map V.int)) ∧ ns.length = i + 1 ∧ ∀ n ∈ ns, 0 ≤ n ∧ n < 1000) → D.nx σ' H2) → D.nx [some (.int c), some (.int (m : Int)), some (.int rest'), some (.int span), some (.ref o), x5', x6'] (upd H' o (.lst (ns.map V.int ++ [V.int r]))) := fun D rest' x5' x6' r h0 h1 k => by
        obtain ⟨a1, a2, a3⟩ := app r h0 h1
        exact k _ _ ⟨rest', span, x5', x6', _, rfl, same_mut hs no, a1, a2, a3⟩
      have m1 : ∀ z : Int, 0 ≤ z % 1000 ∧ z % 1000 < 1000 := fun z => by omega
      have m2 : ∀ z : Int, 0 ≤ z % 2147483647 ∧ z % 2147483647 < 2147483647 := fun z => by omega
      refine ite2 (fun e => ?_) (fun e => ?_)
      · refine ⟨_, rfl, _, _, rfl, rfl, _, rfl, ite2 (fun e => ?_) (fun e => ?_)⟩
        · refine ⟨_, rfl, .inl ⟨rfl, _, SqL.of ho⟩, _, rfl, .inl ⟨_, rfl, _, _, rfl, rfl, by show (0 : Int) < 1000; decide, _, _, _, rfl, rfl, ho, sz, ?_⟩⟩
          refine ⟨_, rfl, _, _, rfl, rfl, ⟨by decide, by decide⟩, ?_⟩
          obtain ⟨a1, a2, a3⟩ := app (rest % 1000) (m1 _).1 (m1 _).2
          exact ⟨_, _, _, _, _, rfl, same_mut hs no, a1, a2, a3⟩
        · refine ⟨_, rfl, _, _, rfl, rfl, .inr ⟨by decide, by decide⟩, _, rfl, _, _, rfl, rfl, .inr ⟨by decide, by decide⟩, _, _, rfl, rfl, _, _, rfl, rfl, .inl ⟨_, rfl, _, _, rfl, rfl, by show (0 : Int) < 2147483647; decide, ?_⟩⟩
          refine ⟨_, rfl, _, rfl, _, _, rfl, rfl, .inl ?_, _, rfl, _, _, rfl, rfl, .inl ⟨by decide, by decide⟩, _, _, rfl, rfl, _, _, rfl, rfl, .inl ⟨_, rfl, _, _, rfl, rfl, by show (0 : Int) < 2147483629; decide, ?_⟩⟩
          · have h := m2 (span * 48271 + (0 + (i : Int)) * 69621 + 11)
            omega
          refine ⟨_, rfl, .inl ⟨rfl, _, SqL.of ho⟩, _, rfl, _, _, rfl, rfl, ⟨by decide, by decide⟩, .inl ⟨_, rfl, _, _, rfl, rfl, by show (0 : Int) < 1000; decide, _, _, _, rfl, rfl, ho, sz, ?_⟩⟩
          obtain ⟨a1, a2, a3⟩ := app _ (m1 _).1 (m1 _).2
          exact ⟨_, _, _, _, _, rfl, same_mut hs no, a1, a2, a3⟩
      · refine iteF ?_
        refine ⟨_, rfl, _, _, rfl, rfl, .inr ⟨by decide, by decide⟩, _, rfl, _, _, rfl, rfl, .inr ⟨by decide, by decide⟩, _, _, rfl, rfl, _, _, rfl, rfl, .inl ⟨_, rfl, _, _, rfl, rfl, by show (0 : Int) < 2147483647; decide, ?_⟩⟩
        refine ⟨_, rfl, _, rfl, _, _, rfl, rfl, .inl ?_, _, rfl, _, _, rfl, rfl, .inl ⟨by decide, by decide⟩, _, _, rfl, rfl, _, _, rfl, rfl, .inl ⟨_, rfl, _, _, rfl, rfl, by show (0 : Int) < 2147483629; decide, ?_⟩⟩
        · have h := m2 (span * 48271 + (0 + (i : Int)) * 69621 + 11)
          omega
        refine ⟨_, rfl, .inl ⟨rfl, _, SqL.of ho⟩, _, rfl, _, _, rfl, rfl, ⟨by decide, by decide⟩, .inl ⟨_, rfl, _, _, rfl, rfl, by show (0 : Int) < 1000; decide, _, _, _, rfl, rfl, ho, sz, ?_⟩⟩
        obtain ⟨a1, a2, a3⟩ := app _ (m1 _).1 (m1 _).2
        exact ⟨_, _, _, _, _, rfl, same_mut hs no, a1, a2, a3⟩
    · subst hσ
      exact ⟨_, rfl, q _ _ ns hs no ho hl hb⟩
def spLawState (K : PySem.W.Frag) : Sp := fun vs H Q _ => ∃ (l : Addr) (ns : List Int), vs = [.ref l] ∧ SqL K H l (ns.map V.int) ∧ ∀ H' p a, Same H H' → Dw H' p a 0 → Q (.ref p) H'
theorem okLawState (T : Txt K mg fa fd) : FnOk P w K mg base CX0 2 (fa 10) (fd 10) ["script"] (spLawState K) := by
  refine T.F__law_state.ok scLawState (fun vs H Q E h => ?_) (fun cdv A outer s H vs Q E hr h => ?_)
  · obtain ⟨l, ns, rfl, hS, q⟩ := h
    rfl
  · obtain ⟨l, ns, rfl, hS, q⟩ := h
    refine ⟨_, (pss_cons (ps_set (i := 1) scLawState.nd rfl (Or.inl rfl) (pe_lst pa_nil))
      (pss_cons (ps_for PassesOwn.never rfl (pi_range1 (by rfl) T.m_range (pa_cons pe_int pa_nil)) (pg_name (i := 2) scLawState.nd rfl (Or.inl rfl))
      (pss_one (ps_set (i := 1) scLawState.nd rfl (Or.inl rfl) (pe_op op_cat (pv 1) (pe_call (okLawNumbers T) hr (by rfl) T.G__law_numbers T.F__law_numbers.kp T.B__law_numbers .nil pass0 (pa_cons (pe_op op_add (pe_callB call_abs (by rfl) T.m_abs (by decide +kernel) (pa_cons (pe_call (okLawCell T) hr (by rfl) T.G__law_cell T.F__law_cell.kp T.B__law_cell .nil pass0 (pa_cons (pv 0) (pa_cons (pv 2) pa_nil))) pa_nil)) (pe_op op_mul pe_int (pv 2))) (pa_cons pe_int pa_nil)))))))
      (pss_one (ps_ret (pe_lst (pa_cons (pv 1) (pa_cons pe_int pa_nil))))))), ?_⟩
    refine ⟨Nat.zero_le _, fun o no => ?_⟩
    refine ⟨3, rfl, by decide, by decide, for_range (lo := 0) (n := 3) (fun i σ H' => ∃ (o : Addr) (x2 : Option V) (ms : List Int), σ = [some (.ref l), some (.ref o), x2] ∧ Same H H' ∧ H' o = some (.lst (ms.map V.int)) ∧ ms.length = 40 * i ∧ ∀ n ∈ ms, 0 ≤ n ∧ n < 1000)
      ⟨o, none, [], rfl, same_upd no, upd_same, rfl, fun n h => nomatch h⟩ (fun i σ H' hi ⟨o, x2, ms, hσ, hs, ho, hl, hb⟩ => ?_) (fun σ H' ⟨o, x2, ms, hσ, hs, ho, hl, hb⟩ => ?_)⟩
    · subst hσ
      refine ⟨_, rfl, _, rfl, _, rfl, l, ns, i, ?_, hs.seq hS, fun v => ⟨_, rfl, _, rfl, _, _, rfl, rfl, .inl ⟨by decide, by decide⟩, _, _, rfl, rfl, _, 40, rfl, by decide, fun H2 u ks s2 nu hu kl kb => ?_⟩⟩
      · exact congrArg (fun t : Int => [V.ref l, V.int t]) (Int.zero_add _)
      refine ⟨_, _, _, _, rfl, rfl, s2 _ _ ho, hu, ?_, fun w nw => ?_⟩
      · rw [List.length_map, List.length_map]
        exact small200 (by omega)
      refine ⟨w, _, ms ++ ks, rfl, (hs.trans s2).trans (same_upd nw), ?_, ?_, fun n hn => ?_⟩
      · rw [upd_same, List.map_append]
      · rw [List.length_append]
        omega
      · rcases List.mem_append.mp hn with hn | hn
        · exact hb n hn
        · exact kb n hn
    · subst hσ
      refine ⟨_, rfl, by show 2 ≤ sizeLine; decide, fun p np => ?_⟩
      refine q _ p o (hs.trans (same_upd np)) ⟨0, ms, Nat.le_refl 0, ne_of_none ho np, upd_same, ?_, hl, hb⟩
      rw [upd_ne (ne_of_none ho np)]
      exact ho
def spLawNext (_ : PySem.W.Frag) : Sp := fun vs H Q _ => ∃ (p a : Addr) (many : Int) (N : Nat), vs = [.ref p, .int many] ∧ Dw H p a N ∧ N < 1000000000 ∧ 0 < many ∧
  ∀ r H', 0 ≤ r → r < many → Dw H' p a (N + 1) → (∀ b, b ≠ p → H' b = H b) → Q (.int r) H'
theorem okLawNext (T : Txt K mg fa fd) : FnOk P w K mg base CX0 1 (fa 11) (fd 11) ["state", "many"] (spLawNext K) := by
  refine T.F__law_next.ok scLawNext (fun vs H Q E h => ?_) (fun cdv A outer s H vs Q E hr h => ?_)
  · obtain ⟨p, a, many, N, rfl, ⟨m, ns, hm, hap, hp, ha, hl, hb⟩, hN, hmany, q⟩ := h
    rfl
  · obtain ⟨p, a, many, N, rfl, ⟨m, ns, hm, hap, hp, ha, hl, hb⟩, hN, hmany, q⟩ := h
    refine ⟨_, (pss_cons (ps_asg (pe_op op_add (pe_ix (ixL K) (pv 0) pe_int (fun _ _ => rfl)) pe_int) (pg_sub (pv 0) pe_int set_list))
      (pss_cons (ps_set (i := 2) scLawNext.nd rfl (Or.inl rfl) (pe_op op_add (pe_ix (ixL K) (pe_ix (ixL K) (pv 0) pe_int (fun _ _ => rfl)) (pe_op op_mod (pe_callTy call_int1 (by rfl) T.m_int (by decide +kernel) (pa_cons (pe_op op_mul (pe_ix (ixL K) (pv 0) pe_int (fun _ _ => rfl)) pe_int) pa_nil)) (pe_callB (lenQ K) (by rfl) T.m_len (by decide +kernel) (pa_cons (pe_ix (ixL K) (pv 0) pe_int (fun _ _ => rfl)) pa_nil))) (fun _ _ => rfl)) (pe_op op_mul (pe_op op_mul pe_int (pe_ix (ixL K) (pv 0) pe_int (fun _ _ => rfl))) (pe_op op_add pe_int (pe_op op_fdiv (pe_ix (ixL K) (pv 0) pe_int (fun _ _ => rfl)) (pe_callB (lenQ K) (by rfl) T.m_len (by decide +kernel) (pa_cons (pe_ix (ixL K) (pv 0) pe_int (fun _ _ => rfl)) pa_nil)))))))
      (pss_one (ps_ret (pe_op op_mod (pe_callTy call_int1 (by rfl) T.m_int (by decide +kernel) (pa_cons (pv 2) pa_nil)) (pv 1)))))), ?_⟩
    have eS : SqL K H p [.ref a, .int (m : Int)] := SqL.of hp
    refine ⟨_, rfl, _, _, _, _, rfl, rfl, eS, atI_nat (j := 1) rfl, _, _, rfl, rfl, _, rfl, _, _, _, 1, rfl, rfl, hp, rfl, ?_⟩
    have h1p : (upd H p (.lst [.ref a, .int ((m : Int) + 1)])) p = some (.lst [.ref a, .int ((m : Int) + 1)]) := upd_same
    have h1a : (upd H p (.lst [.ref a, .int ((m : Int) + 1)])) a = some (.lst (ns.map V.int)) := by
      rw [upd_ne hap]
      exact ha
    have fr : ∀ b, b ≠ p → (upd H p (.lst [.ref a, .int ((m : Int) + 1)])) b = H b := fun b hb => upd_ne hb
    show tSeq _ _ _ _ (upd H p (.lst [.ref a, .int ((m : Int) + 1)]))
    generalize upd H p (.lst [.ref a, .int ((m : Int) + 1)]) = H1 at h1p h1a fr
    have S1 : SqL K H1 p [.ref a, .int ((m : Int) + 1)] := SqL.of h1p
    have A1 : SqL K H1 a (ns.map V.int) := SqL.of h1a
    have hl2 : ((ns.map V.int).length : Int) = 120 := by
      rw [List.length_map, hl]
      rfl
    obtain ⟨x, hx, ex⟩ := at_int (ns := ns) (r := ((m : Int) + 1) * 7 % 120) (by omega) (by omega)
    refine ⟨_, rfl, _, _, _, _, rfl, rfl, S1, atI_nat (j := 0) rfl, _, rfl, _, _, _, _, rfl, rfl, S1, atI_nat (j := 1) rfl, _, _, rfl, rfl, .inr ⟨by decide, by decide⟩, .inl ⟨_, rfl, _, rfl, _, _, _, _, rfl, rfl, S1, atI_nat (j := 0) rfl, _, _, rfl, .inl A1, ?_⟩⟩
    rw [hl2]
    refine ⟨_, _, rfl, rfl, by show (0 : Int) < 120; decide, _, _, _, _, rfl, rfl, A1, ex, ?_⟩
    refine ⟨_, rfl, _, _, _, _, rfl, rfl, S1, atI_nat (j := 1) rfl, _, _, rfl, rfl, .inl ⟨by decide, by decide⟩, _, rfl, _, _, _, _, rfl, rfl, S1, atI_nat (j := 1) rfl, _, rfl, _, _, _, _, rfl, rfl, S1, atI_nat (j := 0) rfl, _, _, rfl, .inl A1, ?_⟩
    rw [hl2]
    refine ⟨_, _, rfl, rfl, ⟨by decide, by decide⟩, _, _, rfl, rfl, _, _, rfl, rfl, .inl ⟨by omega, by omega⟩, _, _, rfl, rfl, ?_⟩
    refine ⟨_, rfl, .inl ⟨_, rfl, _, rfl, _, _, rfl, rfl, hmany, ?_⟩⟩
    exact q _ _ (Int.emod_nonneg _ (by omega)) (Int.emod_lt_of_pos _ hmany) ⟨m + 1, ns, by omega, hap, h1p, h1a, hl, hb⟩ fr
def spLawWide (_ : PySem.W.Frag) : Sp := fun vs H Q _ => ∃ (p a : Addr) (many : Int) (N : Nat), vs = [.ref p, .int many] ∧ Dw H p a N ∧ N < 900000000 ∧ 0 < many ∧
  ∀ r H', 0 ≤ r → r < many → Dw H' p a (N + 6) → (∀ b, b ≠ p → H' b = H b) → Q (.int r) H'
theorem okLawWide (T : Txt K mg fa fd) : FnOk P w K mg base CX0 2 (fa 12) (fd 12) ["state", "many"] (spLawWide K) := by
  refine T.F__law_wide.ok scLawWide (fun vs H Q E h => ?_) (fun cdv A outer s H vs Q E hr h => ?_)
  · obtain ⟨p, a, many, N, rfl, hD, hN, hmany, q⟩ := h
    rfl
  · obtain ⟨p, a, many, N, rfl, hD, hN, hmany, q⟩ := h
    refine ⟨_, (pss_cons (ps_set (i := 2) scLawWide.nd rfl (Or.inl rfl) pe_int)
      (pss_cons (ps_for PassesOwn.never rfl (pi_range1 (by rfl) T.m_range (pa_cons pe_int pa_nil)) (pg_name (i := 3) scLawWide.nd rfl (Or.inl rfl))
      (pss_one (ps_set (i := 2) scLawWide.nd rfl (Or.inl rfl) (pe_op op_add (pe_op op_mul (pv 2) pe_int) (pe_call (okLawNext T) hr (by rfl) T.G__law_next T.F__law_next.kp T.B__law_next .nil pass0 (pa_cons (pv 0) (pa_cons pe_int pa_nil)))))))
      (pss_one (ps_ret (pe_op op_mod (pv 2) (pv 1)))))), ?_⟩
    refine ⟨6, rfl, by decide, by decide, for_range (lo := 0) (n := 6) (fun i σ H' => ∃ (t : Int) (x3 : Option V), σ = [some (.ref p), some (.int many), some (.int t), x3] ∧ Dw H' p a (N + i) ∧ ∀ b, b ≠ p → H' b = H b)
      ⟨0, none, rfl, hD, fun _ _ => rfl⟩ (fun i σ H' hi ⟨t, x3, hσ, hd, fr⟩ => ?_) (fun σ H' ⟨t, x3, hσ, hd, fr⟩ => ?_)⟩
    · subst hσ
      refine ⟨_, rfl, _, _, rfl, rfl, .inr ⟨by decide, by decide⟩, _, rfl, p, a, 1000, N + i, rfl, hd, by omega, by decide, fun r H2 h0 h1 hd2 fr2 => ?_⟩
      refine ⟨_, _, rfl, rfl, _, _, rfl, ?_, fun b hb => (fr2 b hb).trans (fr b hb)⟩
      exact hd2
    · subst hσ
      refine ⟨_, rfl, _, rfl, _, _, rfl, rfl, hmany, ?_⟩
      exact q _ _ (Int.emod_nonneg _ (by omega)) (Int.emod_lt_of_pos _ hmany) hd fr
def spLawRoot (_ : PySem.W.Frag) : Sp := fun vs H Q _ => ∃ n : Int, vs = [.int n] ∧ 0 ≤ n ∧ n < 2 ^ 60 ∧ Q (.int (rootI n)) H
theorem okLawRoot (T : Txt K mg fa fd) : FnOk P w K mg base CX0 1 (fa 13) (fd 13) ["n"] (spLawRoot K) := by
  refine T.F__law_root.ok scLawRoot (fun vs H Q E h => ?_) (fun cdv A outer s H vs Q E hr h => ?_)
  · obtain ⟨n, rfl, h0, h1, q⟩ := h
    rfl
  · obtain ⟨n, rfl, h0, h1, q⟩ := h
    refine ⟨_, (pss_cons (ps_set (i := 1) scLawRoot.nd rfl (Or.inl rfl) pe_int)
      (pss_cons (ps_set (i := 2) scLawRoot.nd rfl (Or.inl rfl) (pe_op op_add (pv 0) pe_int))
      (pss_cons (ps_for PassesOwn.never rfl (pi_range1 (by rfl) T.m_range (pa_cons pe_int pa_nil)) (pg_name (i := 3) scLawRoot.nd rfl (Or.inl rfl))
      (pss_cons (ps_if (pt_cmp (pc_le (pe_op op_sub (pv 2) (pv 1)) pe_int))
        (pss_one (ps_ret (pv 1)))
        pss_nil)
        (pss_cons (ps_set (i := 4) scLawRoot.nd rfl (Or.inl rfl) (pe_op op_fdiv (pe_op op_add (pv 1) (pv 2)) pe_int))
        (pss_one (ps_if (pt_cmp (pc_le (pe_op op_mul (pv 4) (pv 4)) (pv 0)))
        (pss_one (ps_set (i := 1) scLawRoot.nd rfl (Or.inl rfl) (pv 4)))
        (pss_one (ps_set (i := 2) scLawRoot.nd rfl (Or.inl rfl) (pv 4))))))))
      (pss_one (ps_ret (pv 1)))))), ?_⟩
    have h1' : n < 1152921504606846976 := h1
    refine ⟨_, rfl, _, _, rfl, rfl, 2000, rfl, by decide, by decide, ?_⟩
    refine for_range (lo := 0) (n := 2000) (fun i σ H' => ∃ (low high : Int) (x3 x4 : Option V), σ = [some (.int n), some (.int low), some (.int high), x3, x4] ∧ H' = H ∧ 0 ≤ low ∧ low < high ∧ high ≤ n + 1 ∧ low * low ≤ n ∧ n < high * high ∧ (high - low - 1) * 2 ^ i ≤ n)
      ⟨0, n + 1, none, none, rfl, rfl, by omega, by omega, by omega, by omega, ?_, by simp⟩ (fun i σ H' hi ⟨low, high, x3, x4, hσ, e, z0, z1, z2, z3, z4, z5⟩ => ?_) (fun σ H' ⟨low, high, x3, x4, hσ, e, z0, z1, z2, z3, z4, z5⟩ => ?_)
    · have a : (n + 1) * 1 ≤ (n + 1) * (n + 1) := Int.mul_le_mul_of_nonneg_left (by omega) (by omega)
      omega
    · subst hσ e
      refine ⟨_, rfl, _, rfl, _, _, rfl, rfl, _, _, rfl, rfl, _, rfl, way2 (fun h => ?_) (fun h => ?_)⟩
      · have eh : high = low + 1 := by omega
        subst eh
        refine ⟨_, rfl, ?_⟩
        rw [← rootI_uniq h0 z0 z3 z4] at q
        exact q
      · obtain ⟨k1, k2, k3, k4⟩ := half_step (by omega) z5
        refine ⟨_, rfl, _, rfl, _, _, rfl, rfl, _, _, rfl, rfl, ⟨by decide, by decide⟩, ?_⟩
        refine ⟨_, rfl, _, rfl, _, _, rfl, rfl, .inl ⟨by omega, by omega⟩, _, rfl, _, _, rfl, rfl, _, rfl, way2 (fun h => ?_) (fun h => ?_)⟩
        · exact ⟨_, rfl, (low + high) / 2, high, _, _, rfl, rfl, by omega, k4, z2, h, z4, k2⟩
        · exact ⟨_, rfl, low, (low + high) / 2, _, _, rfl, rfl, z0, k3, by omega, z3, by omega, k1⟩
    · subst hσ e
      have eh : high = low + 1 := by
        by_cases z : high - low - 1 ≤ 0
        · omega
        · have p0 : (2 : Int) ^ 60 ≤ 2 ^ 2000 := by
            have e1 : ((2 ^ 60 : Nat) : Int) = 2 ^ 60 := Int.natCast_pow 2 60
            have e2 : ((2 ^ 2000 : Nat) : Int) = 2 ^ 2000 := Int.natCast_pow 2 2000
            have e3 := Nat.pow_le_pow_right (n := 2) (by decide) (show 60 ≤ 2000 by decide)
            omega
          have a : 1 * 2 ^ 2000 ≤ (high - low - 1) * 2 ^ 2000 := Int.mul_le_mul_of_nonneg_right (by omega) (Int.le_trans (by decide) p0)
          omega
      subst eh
      refine ⟨_, rfl, ?_⟩
      rw [← rootI_uniq h0 z0 z3 z4] at q
      exact q
def spLawPell (_ : PySem.W.Frag) : Sp := fun vs H Q _ => ∃ (d : Int) (l : Nat), vs = [.int d] ∧ PellOk d l ∧ pellN l ≤ 5000 ∧ ∀ H' t, Same H H' → H' t = some (.tup [.int (cst (aL d (pellN l))).2.1, .int (cst (aL d (pellN l))).2.2]) → Q (.ref t) H'
theorem okLawPell (T : Txt K mg fa fd) : FnOk P w K mg base CX0 2 (fa 14) (fd 14) ["d"] (spLawPell K) := by
  refine T.F__law_pell.ok scLawPell (fun vs H Q E h => ?_) (fun cdv A outer s H vs Q E hr h => ?_)
  · obtain ⟨d, l, rfl, hP, hN, q⟩ := h
    rfl
  · obtain ⟨d, l, rfl, hP, hN, q⟩ := h
    refine ⟨_, (pss_cons (ps_set (i := 1) scLawPell.nd rfl (Or.inl rfl) (pe_call (okLawRoot T) hr (by rfl) T.G__law_root T.F__law_root.kp T.B__law_root .nil pass0 (pa_cons (pv 0) pa_nil)))
      (pss_cons (ps_par3 (i := 2) (j := 3) (l := 4) (by rfl) scLawPell.nd rfl rfl rfl (by decide) (by decide) (by decide) rfl rfl rfl (pa_cons pe_int (pa_cons pe_int (pa_cons (pv 1) pa_nil))) (by rfl))
      (pss_cons (ps_set (i := 5) scLawPell.nd rfl (Or.inl rfl) (pe_lst (pa_cons pe_int (pa_cons (pv 1) pa_nil))))
      (pss_cons (ps_set (i := 6) scLawPell.nd rfl (Or.inl rfl) (pe_lst (pa_cons pe_int (pa_cons pe_int pa_nil))))
      (pss_cons (ps_for PassesOwn.never rfl (pi_range1 (by rfl) T.m_range (pa_cons pe_int pa_nil)) (pg_name (i := 7) scLawPell.nd rfl (Or.inl rfl))
      (pss_cons (ps_if (pt_cmp (pc_eqI (pe_op op_sub (pe_op op_mulW (pe_ix (ixL K) (pv 5) pe_int (fun _ _ => rfl)) (pe_ix (ixL K) (pv 5) pe_int (fun _ _ => rfl))) (pe_op op_mulW (pe_op op_mul (pv 0) (pe_ix (ixL K) (pv 6) pe_int (fun _ _ => rfl))) (pe_ix (ixL K) (pv 6) pe_int (fun _ _ => rfl)))) pe_int))
        (pss_one (ps_ret (pe_tup (pa_cons (pe_ix (ixL K) (pv 5) pe_int (fun _ _ => rfl)) (pa_cons (pe_ix (ixL K) (pv 6) pe_int (fun _ _ => rfl)) pa_nil)))))
        pss_nil)
        (pss_cons (ps_set (i := 2) scLawPell.nd rfl (Or.inl rfl) (pe_op op_sub (pe_op op_mul (pv 4) (pv 3)) (pv 2)))
        (pss_cons (ps_set (i := 3) scLawPell.nd rfl (Or.inl rfl) (pe_op op_fdivX (pe_op op_sub (pv 0) (pe_op op_mul (pv 2) (pv 2))) (pv 3)))
        (pss_cons (ps_set (i := 4) scLawPell.nd rfl (Or.inl rfl) (pe_op op_fdivX (pe_op op_add (pv 1) (pv 2)) (pv 3)))
        (pss_cons (ps_set (i := 5) scLawPell.nd rfl (Or.inl rfl) (pe_lst (pa_cons (pe_ix (ixL K) (pv 5) pe_int (fun _ _ => rfl)) (pa_cons (pe_op op_add (pe_op op_mul (pv 4) (pe_ix (ixL K) (pv 5) pe_int (fun _ _ => rfl))) (pe_ix (ixL K) (pv 5) pe_int (fun _ _ => rfl))) pa_nil))))
        (pss_one (ps_set (i := 6) scLawPell.nd rfl (Or.inl rfl) (pe_lst (pa_cons (pe_ix (ixL K) (pv 6) pe_int (fun _ _ => rfl)) (pa_cons (pe_op op_add (pe_op op_mul (pv 4) (pe_ix (ixL K) (pv 6) pe_int (fun _ _ => rfl))) (pe_ix (ixL K) (pv 6) pe_int (fun _ _ => rfl))) pa_nil)))))))))))
      (pss_one (ps_ret (pe_tup (pa_cons pe_int (pa_cons pe_int pa_nil)))))))))), ?_⟩
    have hd0 := hP.d0
    have hd1 := hP.d1
    obtain ⟨r0, r1, r2, r3⟩ := hP.sq
    have pn : 1 ≤ pellN l := by
      have h := hP.l0
      unfold pellN
      split <;> omega
    refine ⟨_, rfl, d, rfl, by omega, by show d < 1152921504606846976; omega, ?_⟩
    refine ⟨_, rfl, _, _, _, rfl, ?_⟩
    refine ⟨_, rfl, by show 2 ≤ sizeLine; decide, fun tp ntp => ⟨by show 2 ≤ sizeLine; decide, fun bt nbt => ?_⟩⟩
    refine ⟨5000, rfl, by decide, by decide, ?_⟩
    have s0 := (same_upd (o := .lst [.int 1, .int (rootI d)]) ntp).trans (same_upd (o := .lst [.int 0, .int 1]) nbt)
    have c1 : cst (aL d 1) = ((1, 0), (rootI d, 1)) := by
      rw [cst_aL]
      show ((1, 0), (cfa d (0, 1) 0 * 1 + 0, cfa d (0, 1) 0 * 0 + 1)) = _
      have e : cfa d (0, 1) 0 = rootI d := by
        unfold cfa
        show partI 0 1 (rootI d) = rootI d
        rw [partI_pos (by decide)]
        simp
      rw [e]
      simp
    have a0 : cfa d (0, 1) 0 = rootI d := by
      unfold cfa
      show partI 0 1 (rootI d) = rootI d
      rw [partI_pos (by decide)]
      simp
    refine for_range (lo := 0) (n := 5000) (fun i σ H' => ∃ (tp bt : Addr) (x7 : Option V), σ = [some (.int d), some (.int (rootI d)), some (.int (cf d (rootI d) (0, 1) i).1), some (.int (cf d (rootI d) (0, 1) i).2), some (.int (cfa d (0, 1) i)), some (.ref tp), some (.ref bt), x7] ∧ i < pellN l ∧ Same H H' ∧
        H' tp = some (.lst [.int (cst (aL d (i + 1))).1.1, .int (cst (aL d (i + 1))).2.1]) ∧ H' bt = some (.lst [.int (cst (aL d (i + 1))).1.2, .int (cst (aL d (i + 1))).2.2]))
      ⟨tp, bt, none, ?_, by omega, s0, ?_, ?_⟩ (fun i σ H' hi ⟨tp, bt, x7, e1, hi2, hs, ht, hb⟩ => ?_) (fun σ H' ⟨tp, bt, x7, e1, hi2, hs, ht, hb⟩ => absurd hi2 (by omega))
    · rw [a0]
      rfl
    · rw [c1]
      exact same_upd nbt _ _ upd_same
    · rw [c1]
      exact upd_same
    subst e1
    have hT : SqL K H' tp [.int (cst (aL d (i + 1))).1.1, .int (cst (aL d (i + 1))).2.1] := SqL.of ht
    have hB : SqL K H' bt [.int (cst (aL d (i + 1))).1.2, .int (cst (aL d (i + 1))).2.2] := SqL.of hb
    obtain ⟨w1, w2, w3, w4⟩ := hP.wide (i + 1)
    have up : (2 : Nat) ^ (8 * (i + 1)) < 2 ^ 40100 := Nat.pow_lt_pow_right (by decide) (by omega)
    have w5 : (d * (cst (aL d (i + 1))).2.2).natAbs < 2 ^ (20 + 40100) := wide_lt (show d.natAbs < 2 ^ 20 by show d.natAbs < 1048576; omega) (Nat.lt_of_le_of_lt w4 up)
    have hit := hP.hit hi2
    refine ⟨_, rfl, _, _, _, _, rfl, rfl, hT, atI_nat (j := 1) rfl, _, rfl, _, _, _, _, rfl, rfl, hT, atI_nat (j := 1) rfl, _, _, rfl, rfl, wide_mul (Nat.lt_of_le_of_lt w3 up) (Nat.lt_of_le_of_lt w3 up) (by decide) (by decide) (by decide), ?_⟩
    refine ⟨_, rfl, _, rfl, _, _, _, _, rfl, rfl, hB, atI_nat (j := 1) rfl, _, _, rfl, rfl, .inl ⟨by omega, by omega⟩, _, rfl, _, _, _, _, rfl, rfl, hB, atI_nat (j := 1) rfl, _, _, rfl, rfl, wide_mul w5 (Nat.lt_of_le_of_lt w4 up) (by decide) (by decide) (by decide), _, _, rfl, rfl, _, _, rfl, rfl, _, rfl, ?_⟩
    rw [Int.mul_assoc d]
    refine way2 (fun h => ?_) (fun h => ?_)
    · have e := hit.mp h
      refine ⟨_, rfl, _, _, _, _, rfl, rfl, hT, atI_nat (j := 1) rfl, _, rfl, _, _, _, _, rfl, rfl, hB, atI_nat (j := 1) rfl, by show 2 ≤ sizeLine; decide, fun t nt => ?_⟩
      rw [← e] at q
      exact q _ t (hs.trans (same_upd nt)) upd_same
    · have hne : i + 1 ≠ pellN l := fun e => h (hit.mpr e)
      obtain ⟨s1, s2, s3, s4⟩ := hP.size i
      obtain ⟨t1, t2, t3, t4⟩ := hP.size (i + 1)
      have big : ∀ z : Int, 0 < z → z ≤ 200 → z.natAbs < 2 ^ 9000 := fun z z0 z1 => pow_up (a := 60) (by show z.natAbs < 1152921504606846976; omega) (by decide)
      have eP : cfa d (0, 1) i * (cf d (rootI d) (0, 1) i).2 - (cf d (rootI d) (0, 1) i).1 = (cf d (rootI d) (0, 1) (i + 1)).1 := rfl
      refine ⟨_, rfl, _, rfl, _, _, rfl, rfl, .inr ⟨by omega, by omega⟩, _, rfl, _, _, rfl, rfl, ?_⟩
      dsimp only
      rw [eP]
      refine ⟨_, rfl, _, rfl, _, rfl, _, _, rfl, rfl, .inl ⟨by omega, by omega⟩, _, _, rfl, rfl, _, rfl, _, _, rfl, rfl, ⟨by omega, big _ s3 s4⟩, ?_⟩
      have eQ : (d - (cf d (rootI d) (0, 1) (i + 1)).1 * (cf d (rootI d) (0, 1) (i + 1)).1).fdiv (cf d (rootI d) (0, 1) i).2 = (cf d (rootI d) (0, 1) (i + 1)).2 := rfl
      dsimp only
      rw [eQ]
      refine ⟨_, rfl, _, rfl, _, _, rfl, rfl, _, rfl, _, _, rfl, rfl, ⟨by omega, big _ t3 t4⟩, ?_⟩
      have eA : (rootI d + (cf d (rootI d) (0, 1) (i + 1)).1).fdiv (cf d (rootI d) (0, 1) (i + 1)).2 = cfa d (0, 1) (i + 1) := by
        unfold cfa partI
        rw [if_pos t3, Int.add_comm]
      dsimp only
      rw [eA]
      obtain ⟨p0, p1⟩ := hP.part (i + 1)
      refine ⟨_, rfl, _, _, _, _, rfl, rfl, hT, atI_nat (j := 1) rfl, _, rfl, _, rfl, _, _, _, _, rfl, rfl, hT, atI_nat (j := 1) rfl, _, _, rfl, rfl, .inl ⟨by omega, by omega⟩, _, rfl, _, _, _, _, rfl, rfl, hT, atI_nat (j := 0) rfl, _, _, rfl, rfl, by show 2 ≤ sizeLine; decide, fun tp2 ntp2 => ?_⟩
      have sA := same_upd (o := .lst [.int (cst (aL d (i + 1))).2.1, .int (cfa d (0, 1) (i + 1) * (cst (aL d (i + 1))).2.1 + (cst (aL d (i + 1))).1.1)]) ntp2
      have hB2 := sA.seq hB
      refine ⟨_, rfl, _, _, _, _, rfl, rfl, hB2, atI_nat (j := 1) rfl, _, rfl, _, rfl, _, _, _, _, rfl, rfl, hB2, atI_nat (j := 1) rfl, _, _, rfl, rfl, .inl ⟨by omega, by omega⟩, _, rfl, _, _, _, _, rfl, rfl, hB2, atI_nat (j := 0) rfl, _, _, rfl, rfl, by show 2 ≤ sizeLine; decide, fun bt2 nbt2 => ?_⟩
      refine ⟨tp2, bt2, _, rfl, by omega, (hs.trans sA).trans (same_upd nbt2), ?_, ?_⟩
      · rw [cst_aL d (i + 1)]
        exact same_upd nbt2 _ _ upd_same
      · rw [cst_aL d (i + 1)]
        exact upd_same
def topL (ns : List Int) (i : Nat) : List Int := (List.range (i + 2)).map fun k => match k with | 0 => 0 | k + 1 => (cst (ns.take k)).2.1
def botL (ns : List Int) (i : Nat) : List Int := (List.range (i + 2)).map fun k => match k with | 0 => 1 | k + 1 => (cst (ns.take k)).2.2
theorem topL_succ (ns : List Int) (i : Nat) : topL ns (i + 1) = topL ns i ++ [(cst (ns.take (i + 1))).2.1] := by
  unfold topL
  rw [show i + 1 + 2 = (i + 2) + 1 from rfl, List.range_succ, List.map_append]
  rfl
theorem botL_succ (ns : List Int) (i : Nat) : botL ns (i + 1) = botL ns i ++ [(cst (ns.take (i + 1))).2.2] := by
  unfold botL
  rw [show i + 1 + 2 = (i + 2) + 1 from rfl, List.range_succ, List.map_append]
  rfl
theorem topL_at1 (ns : List Int) (i : Nat) : ((topL ns i).map V.int)[i + 1]? = some (.int (cst (ns.take i)).2.1) := by
  unfold topL
  rw [List.getElem?_map, List.getElem?_map, List.getElem?_range (by omega)]
  rfl
theorem botL_at1 (ns : List Int) (i : Nat) : ((botL ns i).map V.int)[i + 1]? = some (.int (cst (ns.take i)).2.2) := by
  unfold botL
  rw [List.getElem?_map, List.getElem?_map, List.getElem?_range (by omega)]
  rfl
theorem cst_old {ns : List Int} {i : Nat} (h : i < ns.length) : (cst (ns.take (i + 1))).1 = (cst (ns.take i)).2 := by
  rw [cst_take (List.getElem?_eq_getElem h)]
  rfl
theorem topL_at0 {ns : List Int} : ∀ {i : Nat}, i ≤ ns.length → ((topL ns i).map V.int)[i]? = some (.int (cst (ns.take i)).1.1)
  | 0, _ => rfl
  | i + 1, h => by
    rw [cst_old (by omega)]
    unfold topL
    rw [List.getElem?_map, List.getElem?_map, List.getElem?_range (by omega)]
    rfl
theorem botL_at0 {ns : List Int} : ∀ {i : Nat}, i ≤ ns.length → ((botL ns i).map V.int)[i]? = some (.int (cst (ns.take i)).1.2)
  | 0, _ => rfl
  | i + 1, h => by
    rw [cst_old (by omega)]
    unfold botL
    rw [List.getElem?_map, List.getElem?_map, List.getElem?_range (by omega)]
    rfl
theorem topL_len (ns : List Int) (i : Nat) : ((topL ns i).map V.int).length = i + 2 := by
  unfold topL
  rw [List.length_map, List.length_map, List.length_range]
theorem botL_len (ns : List Int) (i : Nat) : ((botL ns i).map V.int).length = i + 2 := by
  unfold botL
  rw [List.length_map, List.length_map, List.length_range]
theorem Prs.off {H : Hp} {as : List Addr} {ps : List (Int × Int)} {q : Addr} {xs ys : List V} (h : Prs H as ps) (e : H q = some (.lst xs)) : Prs (upd H q (.lst ys)) as ps := h.mono fun b zs e2 => by
  rw [upd_ne (ne_of e2 e (by intro z; cases z))]
  exact e2
theorem Prs.nil_of {H : Hp} {as : List Addr} (h : Prs H as []) : as = [] := by
  cases h
  rfl
def spLaw (K : PySem.W.Frag) : Sp := fun vs H Q _ => ∃ (a : Addr) (ns : List Int), vs = [.ref a] ∧ SqL K H a (ns.map V.int) ∧ ns.length ≤ 63 ∧ ∀ H', Q (.bl true) H'
theorem okLaw (T : Txt K mg fa fd) : FnOk P w K mg base CX0 6 (fa 15) (fd 15) ["script"] (spLaw K) := by
  refine T.F_law.ok scLaw (fun vs H Q E h => ?_) (fun cdv A outer s H vs Q E hr h => ?_)
  · obtain ⟨l, ns, rfl, hS, hlen, q⟩ := h
    rfl
  · obtain ⟨l, ns, rfl, hS, hlen, q⟩ := h
    refine ⟨_, (pss_cons (ps_set (i := 1) scLaw.nd rfl (Or.inr rfl) (pe_call (okLawState T) (hr.mono (by decide)) (by rfl) T.G__law_state T.F__law_state.kp T.B__law_state .nil pass0 (pa_cons (pv 0) pa_nil)))
      (pss_cons (ps_set (i := 2) scLaw.nd rfl (Or.inl rfl) (pe_op op_cat (pe_lc (own := [("k", 9)]) (g := gName 9) (tt := tYes) rfl scLaw.nd (pi_range1 (by rfl) T.m_range (pa_cons pe_int pa_nil)) (blkOk_by (own := [("k", 9)]) (N := ["script", "state", "parts", "due", "top", "bottom", "part", "passed", "d", "k"]) (sc := defScope sLaw) (by decide +kernel)) (fun _ _ _ _ _ => (pg_name (i := 9) scLaw.nd rfl (Or.inl rfl))) (fun _ _ _ _ _ => pts_nil) (fun _ _ _ _ _ => (pe_op op_sub (pe_call (okLawNext T) (hr.mono (by decide)) (by rfl) T.G__law_next T.F__law_next.kp T.B__law_next .nil pass0 (pa_cons (pv 1) (pa_cons pe_int pa_nil))) pe_int))) (pe_lc (own := [("k", 9)]) (g := gName 9) (tt := tYes) rfl scLaw.nd (pi_range1 (by rfl) T.m_range (pa_cons (pe_call (okLawNext T) (hr.mono (by decide)) (by rfl) T.G__law_next T.F__law_next.kp T.B__law_next .nil pass0 (pa_cons (pv 1) (pa_cons pe_int pa_nil))) pa_nil)) (blkOk_by (own := [("k", 9)]) (N := ["script", "state", "parts", "due", "top", "bottom", "part", "passed", "d", "k"]) (sc := defScope sLaw) (by decide +kernel)) (fun _ _ _ _ _ => (pg_name (i := 9) scLaw.nd rfl (Or.inl rfl))) (fun _ _ _ _ _ => pts_nil) (fun _ _ _ _ _ => (pe_op op_add pe_int (pe_call (okLawNext T) (hr.mono (by decide)) (by rfl) T.G__law_next T.F__law_next.kp T.B__law_next .nil pass0 (pa_cons (pv 1) (pa_cons pe_int pa_nil))))))))
      (pss_cons (ps_set (i := 3) scLaw.nd rfl (Or.inl rfl) (pe_lst pa_nil))
      (pss_cons (ps_set (i := 4) scLaw.nd rfl (Or.inl rfl) (pe_lst (pa_cons pe_int (pa_cons pe_int pa_nil))))
      (pss_cons (ps_set (i := 5) scLaw.nd rfl (Or.inl rfl) (pe_lst (pa_cons pe_int (pa_cons pe_int pa_nil))))
      (pss_cons (ps_for PassesOwn.never rfl (piL K (pv 2)) (pg_name (i := 6) scLaw.nd rfl (Or.inl rfl))
      (pss_cons (ps_expr (pe_bm PySem.F.plainAttrs_list PySem.F.slot_list_append PySem.F.type_list_append mt_append (pv 4) (pa_cons (pe_op op_add (pe_op op_mul (pv 6) (pe_ix (ixL K) (pv 4) (pe_op op_sub (pe_callB (lenQ K) (by rfl) T.m_len (by decide +kernel) (pa_cons (pv 4) pa_nil)) pe_int) (fun _ _ => rfl))) (pe_ix (ixL K) (pv 4) (pe_op op_sub (pe_callB (lenQ K) (by rfl) T.m_len (by decide +kernel) (pa_cons (pv 4) pa_nil)) pe_int) (fun _ _ => rfl))) pa_nil)))
        (pss_cons (ps_expr (pe_bm PySem.F.plainAttrs_list PySem.F.slot_list_append PySem.F.type_list_append mt_append (pv 5) (pa_cons (pe_op op_add (pe_op op_mul (pv 6) (pe_ix (ixL K) (pv 5) (pe_op op_sub (pe_callB (lenQ K) (by rfl) T.m_len (by decide +kernel) (pa_cons (pv 5) pa_nil)) pe_int) (fun _ _ => rfl))) (pe_ix (ixL K) (pv 5) (pe_op op_sub (pe_callB (lenQ K) (by rfl) T.m_len (by decide +kernel) (pa_cons (pv 5) pa_nil)) pe_int) (fun _ _ => rfl))) pa_nil)))
        (pss_one (ps_expr (pe_bm PySem.F.plainAttrs_list PySem.F.slot_list_append PySem.F.type_list_append mt_append (pv 3) (pa_cons (pe_tup (pa_cons (pe_ix (ixL K) (pv 4) (pe_op op_sub (pe_callB (lenQ K) (by rfl) T.m_len (by decide +kernel) (pa_cons (pv 4) pa_nil)) pe_int) (fun _ _ => rfl)) (pa_cons (pe_ix (ixL K) (pv 5) (pe_op op_sub (pe_callB (lenQ K) (by rfl) T.m_len (by decide +kernel) (pa_cons (pv 5) pa_nil)) pe_int) (fun _ _ => rfl)) pa_nil))) pa_nil)))))))
      (pss_cons (ps_set (i := 7) scLaw.nd rfl (Or.inl rfl) (pe_callTy (listQ K) (by rfl) T.m_list (by decide +kernel) (pa_cons (pv 2) pa_nil)))
      (pss_cons (ps_expr (pe_bm PySem.F.plainAttrs_list PySem.F.slot_list_append PySem.F.type_list_append mt_append (pe_call (okConvergents T) (hr.mono (by decide)) (by rfl) T.G_convergents T.F_convergents.kp T.B_convergents .nil pass0 (pa_cons (pv 7) pa_nil)) (pa_cons (pe_tup (pa_cons pe_int (pa_cons pe_int pa_nil))) pa_nil)))
      (pss_cons (ps_if (PW.pt (pw_or (pt_cmpR (neDQ K hr.units) (pe_call (okConvergents T) (hr.mono (by decide)) (by rfl) T.G_convergents T.F_convergents.kp T.B_convergents .nil pass0 (pa_cons (pv 7) pa_nil)) (pv 3) (nomark _)) (pw_or (pt_cmpR (neDQ K hr.units) (pv 7) (pv 2) (nomark _)) (pw_or (pt_cmpR (neDQ K hr.units) (pe_call (okConvergents T) (hr.mono (by decide)) (by rfl) T.G_convergents T.F_convergents.kp T.B_convergents .nil pass0 (pa_cons (pe_callTy (tupQ K) (by rfl) T.m_tuple (by decide +kernel) (pa_cons (pv 2) pa_nil)) pa_nil)) (pv 3) (nomark _)) (pw_or1 (pt_cmpR (neDQ K hr.units) (pe_call (okConvergents T) (hr.mono (by decide)) (by rfl) T.G_convergents T.F_convergents.kp T.B_convergents .nil pass0 (pa_cons (pe_lst pa_nil) pa_nil)) (pe_lst pa_nil) (nomark _)))))))
      (pss_one (ps_ret pe_bl))
      pss_nil)
      (pss_cons (ps_set (i := 8) scLaw.nd rfl (Or.inl rfl) (pe_op op_add pe_int (pe_ix (ixL K) (pe_lst (pa_cons (pe_call (okLawNext T) (hr.mono (by decide)) (by rfl) T.G__law_next T.F__law_next.kp T.B__law_next .nil pass0 (pa_cons (pv 1) (pa_cons pe_int pa_nil))) (pa_cons (pe_call (okLawWide T) (hr.mono (by decide)) (by rfl) T.G__law_wide T.F__law_wide.kp T.B__law_wide .nil pass0 (pa_cons (pv 1) (pa_cons pe_int pa_nil))) pa_nil))) (pe_callTy call_int1 (by rfl) T.m_int (by decide +kernel) (pa_cons (pe_cmp (pc_eqI (pe_call (okLawNext T) (hr.mono (by decide)) (by rfl) T.G__law_next T.F__law_next.kp T.B__law_next .nil pass0 (pa_cons (pv 1) (pa_cons pe_int pa_nil))) pe_int)) pa_nil)) (fun _ _ => rfl))))
      (pss_cons (ps_if (pt_cmp (pc_eqI (pe_op op_mul (pe_call (okLawRoot T) (hr.mono (by decide)) (by rfl) T.G__law_root T.F__law_root.kp T.B__law_root .nil pass0 (pa_cons (pv 8) pa_nil)) (pe_call (okLawRoot T) (hr.mono (by decide)) (by rfl) T.G__law_root T.F__law_root.kp T.B__law_root .nil pass0 (pa_cons (pv 8) pa_nil))) (pv 8)))
      (pss_one (ps_ret pe_bl))
      pss_nil)
      (pss_one (ps_ret (pe_cmpR (eqDQ K hr.units) (pe_call (okPell T) hr (by rfl) T.G_pell T.F_pell.kp T.B_pell .nil pass0 (pa_cons (pv 8) pa_nil)) (pe_call (okLawPell T) (hr.mono (by decide)) (by rfl) T.G__law_pell T.F__law_pell.kp T.B__law_pell .nil pass0 (pa_cons (pv 8) pa_nil)) (nomark _))))))))))))))), ?_⟩
    refine ⟨_, rfl, l, ns, rfl, hS, fun H1 p a s1 d1 => ?_⟩
    -- parts
    refine ⟨1, rfl, by decide, by decide, fun D nD => ?_⟩
    have Dp := (d1.ne nD).1
    have Da := (d1.ne nD).2
    refine lc_range (lo := 0) (n := 1) (fun i H => ∃ xs : List Int, H D = some (.lst (xs.map V.int)) ∧ xs.length = i ∧ (∀ x ∈ xs, x.natAbs < 1000) ∧ Dw H p a i)
      ⟨[], upd_same, rfl, (fun x h => nomatch h), (d1.new nD).mono (by decide)⟩ (fun i H5 hi ⟨xs, h1, h2, h3, h4⟩ => ?_) (fun H5 ⟨xs, h1, h2, h3, h4⟩ => ?_)
    · refine ⟨rfl, ?_⟩
      dsimp only [tYes]
      rw [if_pos rfl]
      refine ⟨_, rfl, p, a, 30, _, rfl, h4, by omega, by decide, fun s1 H6 s1a s1b d6 f6 => ⟨_, _, rfl, rfl, _, (f6 D Dp).trans h1, ?_, xs ++ [s1 - 3], ?_, ?_, ?_, ?_⟩⟩
      · rw [List.length_map]
        exact small1000 (by omega)
      · rw [upd_same, List.map_append]
        rfl
      · rw [List.length_append, h2]
        rfl
      · intro z hz
        rcases List.mem_append.mp hz with hz | hz
        · exact h3 z hz
        · rw [List.mem_singleton.mp hz]
          omega
      · exact d6.mut Dp Da
    refine ⟨_, rfl, p, a, 14, _, rfl, h4, by decide, by decide, fun w H6 wa wb d6 f6 => ⟨_, rfl, by omega, by omega, fun D2 nD2 => ?_⟩⟩
    have D2p := (d6.ne nD2).1
    have D2a := (d6.ne nD2).2
    have hD6 : H6 D = some (.lst (xs.map V.int)) := (f6 D Dp).trans h1
    have DD2 : D ≠ D2 := ne_of_none hD6 nD2
    refine lc_range (lo := 0) (n := w.toNat) (fun i H => ∃ ys : List Int, H D = some (.lst (xs.map V.int)) ∧ H D2 = some (.lst (ys.map V.int)) ∧ ys.length = i ∧ (∀ x ∈ ys, x.natAbs < 1000) ∧ Dw H p a (5 + i))
      ⟨[], same_upd nD2 _ _ hD6, upd_same, rfl, (fun x h => nomatch h), (d6.new nD2).mono (by decide)⟩ (fun i H7 hi ⟨ys, g0, g1, g2, g3, g4⟩ => ?_) (fun H7 ⟨ys, g0, g1, g2, g3, g4⟩ => ?_)
    · refine ⟨rfl, ?_⟩
      dsimp only [tYes]
      rw [if_pos rfl]
      refine ⟨_, rfl, p, a, 30, _, rfl, g4, by omega, by decide, fun s1 H8 s1a s1b d8 f8 => ⟨_, _, rfl, rfl, _, (f8 D2 D2p).trans g1, ?_, ys ++ [1 + s1], ?_, ?_, ?_, ?_, ?_⟩⟩
      · rw [List.length_map]
        exact small1000 (by omega)
      · rw [upd_ne DD2]
        exact (f8 D Dp).trans g0
      · rw [upd_same, List.map_append]
        rfl
      · rw [List.length_append, g2]
        rfl
      · intro z hz
        rcases List.mem_append.mp hz with hz | hz
        · exact g3 z hz
        · rw [List.mem_singleton.mp hz]
          omega
      · exact d8.mut D2p D2a
    refine ⟨D, D2, _, _, rfl, rfl, g0, g1, ?_, fun A nA => ?_⟩
    · rw [List.length_map, List.length_map]
      exact small200 (by omega)
    rw [← List.map_append]
    have ms0 : ∀ x ∈ xs ++ ys, x.natAbs < 1000 := fun x hx => by
      rcases List.mem_append.mp hx with hx | hx
      · exact h3 x hx
      · exact g3 x hx
    have ml0 : (xs ++ ys).length ≤ 100 := by
      rw [List.length_append]
      omega
    have d8 : Dw (upd H7 A (.lst ((xs ++ ys).map V.int))) p a 100 := (g4.new nA).mono (by omega)
    have hA : (upd H7 A (.lst ((xs ++ ys).map V.int))) A = some (.lst ((xs ++ ys).map V.int)) := upd_same
    generalize upd H7 A (.lst ((xs ++ ys).map V.int)) = H8 at d8 hA ⊢
    generalize xs ++ ys = ms at hA ms0 ml0 ⊢
    clear g0 g1 g2 g3 g4 h1 h2 h3 h4 hD6 d6 d1
    -- due, top, bottom
    refine ⟨Nat.zero_le _, fun U nU => ⟨by show 2 ≤ sizeLine; decide, fun Tp nT => ⟨by show 2 ≤ sizeLine; decide, fun Bt nB => ?_⟩⟩⟩
    have sU := same_upd (o := .lst []) nU
    have sT := same_upd (o := .lst [.int 0, .int 1]) nT
    have sB := same_upd (o := .lst [.int 1, .int 0]) nB
    have d9 := ((d8.same sU).same sT).same sB
    have hA9 := sB _ _ (sT _ _ (sU _ _ hA))
    have hU9 := sB _ _ (sT _ _ (upd_same (H := H8) (a := U) (o := .lst [])))
    have hT9 := sB _ _ (upd_same (H := upd H8 U (.lst [])) (a := Tp) (o := .lst [.int 0, .int 1]))
    have hB9 := upd_same (H := upd (upd H8 U (.lst [])) Tp (.lst [.int 0, .int 1])) (a := Bt) (o := .lst [.int 1, .int 0])
    have AU : A ≠ U := ne_of_none hA nU
    have AT : A ≠ Tp := ne_of_none (sU _ _ hA) nT
    have AB : A ≠ Bt := ne_of_none (sT _ _ (sU _ _ hA)) nB
    have UT : U ≠ Tp := ne_of_none (upd_same (H := H8) (a := U) (o := .lst [])) nT
    have UB : U ≠ Bt := ne_of_none (sT _ _ (upd_same (H := H8) (a := U) (o := .lst []))) nB
    have TB : Tp ≠ Bt := ne_of_none (upd_same (H := upd H8 U (.lst [])) (a := Tp) (o := .lst [.int 0, .int 1])) nB
    have Uo := d8.ne nU
    have To := (d8.same sU).ne nT
    have Bo := ((d8.same sU).same sT).ne nB
    generalize upd (upd (upd H8 U (.lst [])) Tp (.lst [.int 0, .int 1])) Bt (.lst [.int 1, .int 0]) = H9 at d9 hA9 hU9 hT9 hB9 ⊢
    refine ⟨_, rfl, A, rfl, ⟨_, SqL.of hA9⟩, for_list (K := K) (a := A) (xs := ms.map V.int) (fun i σ H => ∃ (x6 : Option V) (us : List Addr), σ = [some (.ref l), some (.ref p), some (.ref A), some (.ref U), some (.ref Tp), some (.ref Bt), x6, none, none, none] ∧ H A = some (.lst (ms.map V.int)) ∧ H U = some (.lst (us.map V.ref)) ∧ Prs H us (cvl (ms.take i)) ∧ H Tp = some (.lst ((topL ms i).map V.int)) ∧ H Bt = some (.lst ((botL ms i).map V.int)) ∧ Dw H p a 100)
      ⟨none, [], rfl, hA9, hU9, .nil, hT9, hB9, d9⟩ (fun i σ H hi ⟨x6, us, e1, e2, _⟩ => SqL.of e2) (fun i x σ H hx ⟨x6, us, e1, e2, e3, e4, e5, e6, e7⟩ => ?_) (fun σ H ⟨x6, us, e1, e2, e3, e4, e5, e6, e7⟩ => ?_)⟩
    · subst e1
      rw [List.getElem?_map] at hx
      cases hn : ms[i]? with
      | none =>
        rw [hn] at hx
        cases hx
      | some n =>
        rw [hn] at hx
        cases hx
        have hil : i < ms.length := (List.getElem?_eq_some_iff.mp hn).1
        have nb := ms0 n (List.mem_of_getElem? hn)
        have st := cst_take hn
        have szT : ((topL ms i).map V.int).length < sizeLine := by
          rw [topL_len]
          exact small1000 (by omega)
        have szB : ((botL ms i).map V.int).length < sizeLine := by
          rw [botL_len]
          exact small1000 (by omega)
        refine ⟨_, rfl, .inl ⟨rfl, _, SqL.of e5⟩, _, rfl, _, rfl, _, rfl, _, _, rfl, .inl (SqL.of e5), _, _, rfl, rfl, _, _, _, _, rfl, rfl, SqL.of e5, at_of (j := i + 1) (by rw [topL_len]; omega) (topL_at1 ms i), _, _, rfl, rfl, .inl ⟨by omega, by omega⟩, _, rfl, _, rfl, _, _, rfl, .inl (SqL.of e5), _, _, rfl, rfl, _, _, _, _, rfl, rfl, SqL.of e5, at_of (j := i) (by rw [topL_len]; omega) (topL_at0 (by omega)), _, _, rfl, rfl, _, _, _, rfl, rfl, e5, szT, ?_⟩
        have eT : (topL ms i).map V.int ++ [V.int (n * (cst (ms.take i)).2.1 + (cst (ms.take i)).1.1)] = (topL ms (i + 1)).map V.int := by
          rw [topL_succ, List.map_append, st]
          rfl
        rw [eT]
        have hA2 : (upd H Tp (.lst ((topL ms (i + 1)).map V.int))) A = some (.lst (ms.map V.int)) := by
          rw [upd_ne AT]
          exact e2
        have hU2 : (upd H Tp (.lst ((topL ms (i + 1)).map V.int))) U = some (.lst (us.map V.ref)) := by
          rw [upd_ne UT]
          exact e3
        have hT2 : (upd H Tp (.lst ((topL ms (i + 1)).map V.int))) Tp = some (.lst ((topL ms (i + 1)).map V.int)) := upd_same
        have hB2 : (upd H Tp (.lst ((topL ms (i + 1)).map V.int))) Bt = some (.lst ((botL ms i).map V.int)) := by
          rw [upd_ne TB.symm]
          exact e6
        have hP2 := e4.off (ys := (topL ms (i + 1)).map V.int) e5
        have hd2 := e7.mut (o := .lst ((topL ms (i + 1)).map V.int)) To.1 To.2
        generalize upd H Tp (.lst ((topL ms (i + 1)).map V.int)) = H2 at hA2 hU2 hT2 hB2 hP2 hd2 ⊢
        refine ⟨_, rfl, .inl ⟨rfl, _, SqL.of hB2⟩, _, rfl, _, rfl, _, rfl, _, _, rfl, .inl (SqL.of hB2), _, _, rfl, rfl, _, _, _, _, rfl, rfl, SqL.of hB2, at_of (j := i + 1) (by rw [botL_len]; omega) (botL_at1 ms i), _, _, rfl, rfl, .inl ⟨by omega, by omega⟩, _, rfl, _, rfl, _, _, rfl, .inl (SqL.of hB2), _, _, rfl, rfl, _, _, _, _, rfl, rfl, SqL.of hB2, at_of (j := i) (by rw [botL_len]; omega) (botL_at0 (by omega)), _, _, rfl, rfl, _, _, _, rfl, rfl, hB2, szB, ?_⟩
        have eB : (botL ms i).map V.int ++ [V.int (n * (cst (ms.take i)).2.2 + (cst (ms.take i)).1.2)] = (botL ms (i + 1)).map V.int := by
          rw [botL_succ, List.map_append, st]
          rfl
        rw [eB]
        have hA3 : (upd H2 Bt (.lst ((botL ms (i + 1)).map V.int))) A = some (.lst (ms.map V.int)) := by
          rw [upd_ne AB]
          exact hA2
        have hU3 : (upd H2 Bt (.lst ((botL ms (i + 1)).map V.int))) U = some (.lst (us.map V.ref)) := by
          rw [upd_ne UB]
          exact hU2
        have hB3 : (upd H2 Bt (.lst ((botL ms (i + 1)).map V.int))) Bt = some (.lst ((botL ms (i + 1)).map V.int)) := upd_same
        have hT3 : (upd H2 Bt (.lst ((botL ms (i + 1)).map V.int))) Tp = some (.lst ((topL ms (i + 1)).map V.int)) := by
          rw [upd_ne TB]
          exact hT2
        have hP3 := hP2.off (ys := (botL ms (i + 1)).map V.int) hB2
        have hd3 := hd2.mut (o := .lst ((botL ms (i + 1)).map V.int)) Bo.1 Bo.2
        generalize upd H2 Bt (.lst ((botL ms (i + 1)).map V.int)) = H3 at hA3 hU3 hT3 hB3 hP3 hd3 ⊢
        refine ⟨_, rfl, .inl ⟨rfl, _, SqL.of hU3⟩, _, rfl, _, rfl, _, _, rfl, .inl (SqL.of hT3), _, _, rfl, rfl, _, _, _, _, rfl, rfl, SqL.of hT3, at_of (j := i + 2) (by rw [topL_len]; omega) (topL_at1 ms (i + 1)), _, rfl, _, rfl, _, _, rfl, .inl (SqL.of hB3), _, _, rfl, rfl, _, _, _, _, rfl, rfl, SqL.of hB3, at_of (j := i + 2) (by rw [botL_len]; omega) (botL_at1 ms (i + 1)), by show 2 ≤ sizeLine; decide, fun t nt => ?_⟩
        have sA := same_upd (o := .tup [.int (cst (ms.take (i + 1))).2.1, .int (cst (ms.take (i + 1))).2.2]) nt
        have hU4 := sA _ _ hU3
        refine ⟨U, _, _, rfl, rfl, hU4, ?_, ?_⟩
        · rw [List.length_map, e4.len]
          unfold cvl
          rw [List.length_map, List.length_range, List.length_take]
          exact small1000 (by omega)
        refine ⟨some (.int n), us ++ [t], rfl, ?_, ?_, ?_, ?_, ?_, (hd3.same sA).mut Uo.1 Uo.2⟩
        · rw [upd_ne AU]
          exact sA _ _ hA3
        · rw [upd_same, List.map_append]
          rfl
        · rw [cvl_take hil]
          refine ((hP3.same sA).off hU4).snoc ?_
          rw [upd_ne (ne_of upd_same hU4 (by intro z; cases z))]
          exact upd_same
        · rw [upd_ne UT.symm]
          exact sA _ _ hT3
        · rw [upd_ne UB.symm]
          exact sA _ _ hB3
    · subst e1
      rw [List.length_map, List.take_length] at e4
      have ml1 : ms.length ≤ 100000 := by omega
      have ms1 : ∀ x ∈ ms, x.natAbs < 2 ^ 60 := fun x hx => by
        have h := ms0 x hx
        show x.natAbs < 1152921504606846976
        omega
      -- passed
      refine ⟨_, rfl, A, _, rfl, .inl (SqL.of e2), fun Pd nP => ?_⟩
      have sP := same_upd (o := .lst (ms.map V.int)) nP
      have f2 := sP _ _ e2
      have f3 := sP _ _ e3
      have f4 := e4.same sP
      have f5 := upd_same (H := H) (a := Pd) (o := .lst (ms.map V.int))
      have f7 := e7.same sP
      generalize upd H Pd (.lst (ms.map V.int)) = G at f2 f3 f4 f5 f7 ⊢
      clear e2 e3 e4 e5 e6 e7
      refine ⟨_, rfl, Pd, ms, rfl, .inl (SqL.of f5), ml1, ms1, fun G2 r as sr nr hr hp => ?_⟩
      refine ⟨.inl ⟨rfl, _, SqL.of hr⟩, by show 2 ≤ sizeLine; decide, fun t nt => ?_⟩
      have hr2 := same_upd (o := .tup [.int 0, .int 0]) nt _ _ hr
      refine ⟨r, _, _, rfl, rfl, hr2, ?_, ?_⟩
      · rw [List.length_map, hp.len]
        unfold cvl
        rw [List.length_map, List.length_range]
        exact small1000 (by omega)
      have sG : Same G (upd (upd G2 t (.tup [.int 0, .int 0])) r (.lst (as.map V.ref ++ [.ref t]))) := same_mut (sr.trans (same_upd nt)) nr
      have f2 := sG _ _ f2
      have f3 := sG _ _ f3
      have f4 := f4.same sG
      have f5 := sG _ _ f5
      have f7 := f7.same sG
      generalize upd (upd G2 t (.tup [.int 0, .int 0])) r (.lst (as.map V.ref ++ [.ref t])) = G3 at f2 f3 f4 f5 f7 ⊢
      clear hr hr2 hp nr sG sr
      -- the four tests
      refine ⟨_, rfl, Pd, ms, rfl, .inl (SqL.of f5), ml1, ms1, fun G4 r as sr nr hr hp => ?_⟩
      have f2 := sr _ _ f2
      have f3 := sr _ _ f3
      have f4 := f4.same sr
      have f5 := sr _ _ f5
      have f7 := f7.same sr
      refine ⟨_, rfl, neD_same (.lst (SqL.of hr) hp.dp) (.lst (SqL.of f3) f4.dp) (shaped_prs _) ⟨_, rfl, iteF ?_⟩⟩
      refine ⟨_, rfl, _, rfl, neD_same (.lst (SqL.of f5) (dp_ints ms)) (.lst (SqL.of f2) (dp_ints ms)) (shaped_ints ms) ⟨_, rfl, iteF ?_⟩⟩
      refine ⟨_, rfl, A, _, rfl, .inl ⟨SqL.of f2, fun c nc => ?_⟩⟩
      have sc := same_upd (o := .tup (ms.map V.int)) nc
      refine ⟨c, ms, rfl, .inr (SqT.of upd_same), ml1, ms1, fun G5 r2 as2 sr2 nr2 hr2 hp2 => ?_⟩
      have s5 := sc.trans sr2
      have f3 := s5 _ _ f3
      have f4 := f4.same s5
      have f7 := f7.same s5
      refine ⟨_, rfl, neD_same (.lst (SqL.of hr2) hp2.dp) (.lst (SqL.of f3) f4.dp) (shaped_prs _) ⟨_, rfl, iteF ?_⟩⟩
      refine ⟨Nat.zero_le _, fun e ne => ⟨e, [], rfl, .inl (SqL.of upd_same), Nat.zero_le _, (fun x hx => nomatch hx), fun G6 r3 as3 sr3 nr3 hr3 hp3 => ⟨Nat.zero_le _, fun e2 ne2 => ?_⟩⟩⟩
      have has : as3 = [] := hp3.nil_of
      subst has
      have f7 := ((f7.new ne).same sr3).new (o := .lst []) ne2
      refine neD_same (d := .list []) (.lst (SqL.of (same_upd ne2 _ _ hr3)) .nil) (.lst (SqL.of upd_same) .nil) (by decide +kernel) ⟨_, rfl, iteF ?_⟩
      generalize upd G6 e2 (.lst []) = G7 at f7 ⊢
      -- d
      refine ⟨_, rfl, p, a, 998, _, rfl, f7, by decide, by decide, fun y1 K1 y1a y1b k1 g1 => ⟨_, rfl, p, a, 9998, _, rfl, k1, by decide, by decide, fun y2 K2 y2a y2b k2 g2 => ⟨by show 2 ≤ sizeLine; decide, fun o no => ⟨_, rfl, p, a, 4, _, rfl, k2.new no, by decide, by decide, fun y3 K3 y3a y3b k3 g3 => ⟨_, _, rfl, rfl, .inr ⟨_, rfl, ?_⟩⟩⟩⟩⟩⟩
      have ho : K3 o = some (.lst [.int y1, .int y2]) := by
        rw [g3 o (k2.ne no).1]
        exact upd_same
      obtain ⟨v, hv, ev⟩ := at_mem (xs := [V.int y1, V.int y2]) (r := if decide (y3 = 0) = true then 1 else 0) (by split <;> decide) (by show _ < (2 : Int); split <;> decide)
      obtain ⟨y, rfl, y0, yb⟩ : ∃ y : Int, v = .int y ∧ 0 ≤ y ∧ y < 9998 := by
        simp only [List.mem_cons, List.not_mem_nil, or_false] at hv
        rcases hv with e | e
        · exact ⟨_, e, by omega, by omega⟩
        · exact ⟨_, e, by omega, by omega⟩
      refine ⟨_, _, _, _, rfl, rfl, SqL.of ho, ev, _, _, rfl, rfl, ?_⟩
      have d60 : 2 + y < 2 ^ 60 := by
        show 2 + y < 1152921504606846976
        omega
      obtain ⟨q0, q1, q2⟩ := rootI_spec (n := 2 + y) (by omega)
      have q3 : rootI (2 + y) ≤ 100 := by
        by_cases z : rootI (2 + y) ≤ 100
        · exact z
        · have e : 101 * 101 ≤ rootI (2 + y) * rootI (2 + y) := Int.mul_le_mul (by omega) (by omega) (by omega) (by omega)
          omega
      refine ⟨_, rfl, 2 + y, rfl, by omega, d60, _, rfl, 2 + y, rfl, by omega, d60, _, _, rfl, rfl, .inl ⟨by omega, by omega⟩, _, rfl, _, _, rfl, rfl, _, rfl, way2 (fun h => q _) (fun h => ?_)⟩
      obtain ⟨lp, ok, bd⟩ := pell_ok (d := 2 + y) (by omega) (by omega) h
      refine ⟨_, rfl, 2 + y, lp, rfl, ok, fun K4 t1 s4 ht1 => ⟨_, rfl, 2 + y, lp, rfl, ok, bd, fun K5 t2 s5 ht2 => ?_⟩⟩
      refine eqD_same (d := pdI (cst (aL (2 + y) (pellN lp))).2) (.tup (SqT.of (s5 _ _ ht1)) (.cons (.int _) (.cons (.int _) .nil))) (.tup (SqT.of ht2) (.cons (.int _) (.cons (.int _) .nil))) ?_ (q _)
      exact shaped_intsT [_, _]
end
theorem all_mk {l : PySem.W.OpenLaw} {w : World} {K : PySem.W.Frag} {h : Heap} {mg : Str → Option Value} {f : Addr} (X : K.In h) (G : h.Ns mainGlobals mg) (hfa : mg "law" = some (.ref f))
    {f0 f1 f2 f3 f4 f5 f6 f7 f8 f9 f10 f11 f12 f13 f14 f15 : Addr}
    {od0 an0 od1 an1 od2 an2 od3 an3 od4 an4 od5 an5 od6 an6 od7 an7 od8 an8 od9 an9 od10 an10 od11 an11 od12 an12 od13 an13 od14 an14 od15 an15 : Option Addr} {sl0 sl1 sl2 sl3 sl4 sl5 sl6 sl7 sl8 sl9 sl10 sl11 sl12 sl13 sl14 sl15 : Array (Option Value)}
    {oc0 kV0 dc0 pm0 cd0 ct0 oc1 kV1 dc1 pm1 cd1 ct1 oc2 kV2 dc2 pm2 cd2 ct2 oc3 kV3 dc3 pm3 cd3 ct3 oc4 kV4 dc4 pm4 cd4 ct4 oc5 kV5 dc5 pm5 cd5 ct5 oc6 kV6 dc6 pm6 cd6 ct6 oc7 kV7 dc7 pm7 cd7 ct7 oc8 kV8 dc8 pm8 cd8 ct8 oc9 kV9 dc9 pm9 cd9 ct9 oc10 kV10 dc10 pm10 cd10 ct10 oc11 kV11 dc11 pm11 cd11 ct11 oc12 kV12 dc12 pm12 cd12 ct12 oc13 kV13 dc13 pm13 cd13 ct13 oc14 kV14 dc14 pm14 cd14 ct14 oc15 kV15 dc15 pm15 cd15 ct15 : Value}
    (a0 : PySem.W.nsIn K mainGlobals "floor_root" = some (some (.ref f0))) (l0 : K.lookup f0 = some ⟨oc0, od0, .func (PySem.W.fnOf "floor_root" "floor_root" (defArgs sFloorRoot) (defBody sFloorRoot) (defScope sFloorRoot) .none kV0 dc0 pm0 an0 cd0 ct0), sl0⟩) (c0 : PySem.W.codeIn K cd0 "floor_root" = true) (k0 : PySem.W.keepIn K (.ref f0) = true)
    (a1 : PySem.W.nsIn K mainGlobals "is_square" = some (some (.ref f1))) (l1 : K.lookup f1 = some ⟨oc1, od1, .func (PySem.W.fnOf "is_square" "is_square" (defArgs sIsSquare) (defBody sIsSquare) (defScope sIsSquare) .none kV1 dc1 pm1 an1 cd1 ct1), sl1⟩) (c1 : PySem.W.codeIn K cd1 "is_square" = true) (k1 : PySem.W.keepIn K (.ref f1) = true)
    (a2 : PySem.W.nsIn K mainGlobals "expand" = some (some (.ref f2))) (l2 : K.lookup f2 = some ⟨oc2, od2, .func (PySem.W.fnOf "expand" "expand" (defArgs sExpand) (defBody sExpand) (defScope sExpand) .none kV2 dc2 pm2 an2 cd2 ct2), sl2⟩) (c2 : PySem.W.codeIn K cd2 "expand" = true) (k2 : PySem.W.keepIn K (.ref f2) = true)
    (a3 : PySem.W.nsIn K mainGlobals "_part_of" = some (some (.ref f3))) (l3 : K.lookup f3 = some ⟨oc3, od3, .func (PySem.W.fnOf "_part_of" "_part_of" (defArgs sPartOf) (defBody sPartOf) (defScope sPartOf) .none kV3 dc3 pm3 an3 cd3 ct3), sl3⟩) (c3 : PySem.W.codeIn K cd3 "_part_of" = true) (k3 : PySem.W.keepIn K (.ref f3) = true)
    (a4 : PySem.W.nsIn K mainGlobals "convergents" = some (some (.ref f4))) (l4 : K.lookup f4 = some ⟨oc4, od4, .func (PySem.W.fnOf "convergents" "convergents" (defArgs sConvergents) (defBody sConvergents) (defScope sConvergents) .none kV4 dc4 pm4 an4 cd4 ct4), sl4⟩) (c4 : PySem.W.codeIn K cd4 "convergents" = true) (k4 : PySem.W.keepIn K (.ref f4) = true)
    (a5 : PySem.W.nsIn K mainGlobals "part_at" = some (some (.ref f5))) (l5 : K.lookup f5 = some ⟨oc5, od5, .func (PySem.W.fnOf "part_at" "part_at" (defArgs sPartAt) (defBody sPartAt) (defScope sPartAt) .none kV5 dc5 pm5 an5 cd5 ct5), sl5⟩) (c5 : PySem.W.codeIn K cd5 "part_at" = true) (k5 : PySem.W.keepIn K (.ref f5) = true)
    (a6 : PySem.W.nsIn K mainGlobals "even_turn" = some (some (.ref f6))) (l6 : K.lookup f6 = some ⟨oc6, od6, .func (PySem.W.fnOf "even_turn" "even_turn" (defArgs sEvenTurn) (defBody sEvenTurn) (defScope sEvenTurn) .none kV6 dc6 pm6 an6 cd6 ct6), sl6⟩) (c6 : PySem.W.codeIn K cd6 "even_turn" = true) (k6 : PySem.W.keepIn K (.ref f6) = true)
    (a7 : PySem.W.nsIn K mainGlobals "pell" = some (some (.ref f7))) (l7 : K.lookup f7 = some ⟨oc7, od7, .func (PySem.W.fnOf "pell" "pell" (defArgs sPell) (defBody sPell) (defScope sPell) .none kV7 dc7 pm7 an7 cd7 ct7), sl7⟩) (c7 : PySem.W.codeIn K cd7 "pell" = true) (k7 : PySem.W.keepIn K (.ref f7) = true)
    (a8 : PySem.W.nsIn K mainGlobals "_law_cell" = some (some (.ref f8))) (l8 : K.lookup f8 = some ⟨oc8, od8, .func (PySem.W.fnOf "_law_cell" "_law_cell" (defArgs sLawCell) (defBody sLawCell) (defScope sLawCell) .none kV8 dc8 pm8 an8 cd8 ct8), sl8⟩) (c8 : PySem.W.codeIn K cd8 "_law_cell" = true) (k8 : PySem.W.keepIn K (.ref f8) = true)
    (a9 : PySem.W.nsIn K mainGlobals "_law_numbers" = some (some (.ref f9))) (l9 : K.lookup f9 = some ⟨oc9, od9, .func (PySem.W.fnOf "_law_numbers" "_law_numbers" (defArgs sLawNumbers) (defBody sLawNumbers) (defScope sLawNumbers) .none kV9 dc9 pm9 an9 cd9 ct9), sl9⟩) (c9 : PySem.W.codeIn K cd9 "_law_numbers" = true) (k9 : PySem.W.keepIn K (.ref f9) = true)
    (a10 : PySem.W.nsIn K mainGlobals "_law_state" = some (some (.ref f10))) (l10 : K.lookup f10 = some ⟨oc10, od10, .func (PySem.W.fnOf "_law_state" "_law_state" (defArgs sLawState) (defBody sLawState) (defScope sLawState) .none kV10 dc10 pm10 an10 cd10 ct10), sl10⟩) (c10 : PySem.W.codeIn K cd10 "_law_state" = true) (k10 : PySem.W.keepIn K (.ref f10) = true)
    (a11 : PySem.W.nsIn K mainGlobals "_law_next" = some (some (.ref f11))) (l11 : K.lookup f11 = some ⟨oc11, od11, .func (PySem.W.fnOf "_law_next" "_law_next" (defArgs sLawNext) (defBody sLawNext) (defScope sLawNext) .none kV11 dc11 pm11 an11 cd11 ct11), sl11⟩) (c11 : PySem.W.codeIn K cd11 "_law_next" = true) (k11 : PySem.W.keepIn K (.ref f11) = true)
    (a12 : PySem.W.nsIn K mainGlobals "_law_wide" = some (some (.ref f12))) (l12 : K.lookup f12 = some ⟨oc12, od12, .func (PySem.W.fnOf "_law_wide" "_law_wide" (defArgs sLawWide) (defBody sLawWide) (defScope sLawWide) .none kV12 dc12 pm12 an12 cd12 ct12), sl12⟩) (c12 : PySem.W.codeIn K cd12 "_law_wide" = true) (k12 : PySem.W.keepIn K (.ref f12) = true)
    (a13 : PySem.W.nsIn K mainGlobals "_law_root" = some (some (.ref f13))) (l13 : K.lookup f13 = some ⟨oc13, od13, .func (PySem.W.fnOf "_law_root" "_law_root" (defArgs sLawRoot) (defBody sLawRoot) (defScope sLawRoot) .none kV13 dc13 pm13 an13 cd13 ct13), sl13⟩) (c13 : PySem.W.codeIn K cd13 "_law_root" = true) (k13 : PySem.W.keepIn K (.ref f13) = true)
    (a14 : PySem.W.nsIn K mainGlobals "_law_pell" = some (some (.ref f14))) (l14 : K.lookup f14 = some ⟨oc14, od14, .func (PySem.W.fnOf "_law_pell" "_law_pell" (defArgs sLawPell) (defBody sLawPell) (defScope sLawPell) .none kV14 dc14 pm14 an14 cd14 ct14), sl14⟩) (c14 : PySem.W.codeIn K cd14 "_law_pell" = true) (k14 : PySem.W.keepIn K (.ref f14) = true)
    (a15 : PySem.W.nsIn K mainGlobals "law" = some (some (.ref f15))) (l15 : K.lookup f15 = some ⟨oc15, od15, .func (PySem.W.fnOf "law" "law" (defArgs sLaw) (defBody sLaw) (defScope sLaw) .none kV15 dc15 pm15 an15 cd15 ct15), sl15⟩) (c15 : PySem.W.codeIn K cd15 "law" = true) (k15 : PySem.W.keepIn K (.ref f15) = true)
    (z0 : PySem.W.nsIn K mainGlobals "abs" = some none)
    (z1 : PySem.W.nsIn K mainGlobals "int" = some none)
    (z2 : PySem.W.nsIn K mainGlobals "len" = some none)
    (z3 : PySem.W.nsIn K mainGlobals "list" = some none)
    (z4 : PySem.W.nsIn K mainGlobals "range" = some none)
    (z5 : PySem.W.nsIn K mainGlobals "tuple" = some none)
    (i0 : PySem.W.nsIn K mainGlobals "isqrt" = some (some (.builtin "math.isqrt")))
    : ∃ fd : FuncData, (∀ (s : Shared) (v : Value), BindsTo s fd ⟨[v], []⟩ [("script", v)]) ∧ ∀ base : Heap, K.In base → base.Ns mainGlobals mg → FnOk l.prog w K mg base CX0 6 f fd ["script"] (spLaw K) := by
  have e := hfa.symm.trans (PySem.W.mg_of X G a15)
  cases e
  have F0 := fun_mk (st := sFloorRoot) l0 c0 k0
  have F1 := fun_mk (st := sIsSquare) l1 c1 k1
  have F2 := fun_mk (st := sExpand) l2 c2 k2
  have F3 := fun_mk (st := sPartOf) l3 c3 k3
  have F4 := fun_mk (st := sConvergents) l4 c4 k4
  have F5 := fun_mk (st := sPartAt) l5 c5 k5
  have F6 := fun_mk (st := sEvenTurn) l6 c6 k6
  have F7 := fun_mk (st := sPell) l7 c7 k7
  have F8 := fun_mk (st := sLawCell) l8 c8 k8
  have F9 := fun_mk (st := sLawNumbers) l9 c9 k9
  have F10 := fun_mk (st := sLawState) l10 c10 k10
  have F11 := fun_mk (st := sLawNext) l11 c11 k11
  have F12 := fun_mk (st := sLawWide) l12 c12 k12
  have F13 := fun_mk (st := sLawRoot) l13 c13 k13
  have F14 := fun_mk (st := sLawPell) l14 c14 k14
  have F15 := fun_mk (st := sLaw) l15 c15 k15
  have b0 := F0.binds (ps := ["n"]) fun _ _ _ _ _ _ us hl => match us, hl with | [_], _ => rfl
  have b1 := F1.binds (ps := ["n"]) fun _ _ _ _ _ _ us hl => match us, hl with | [_], _ => rfl
  have b2 := F2.binds (ps := ["p", "q", "d"]) fun _ _ _ _ _ _ us hl => match us, hl with | [_, _, _], _ => rfl
  have b3 := F3.binds (ps := ["p", "q", "root"]) fun _ _ _ _ _ _ us hl => match us, hl with | [_, _, _], _ => rfl
  have b4 := F4.binds (ps := ["parts"]) fun _ _ _ _ _ _ us hl => match us, hl with | [_], _ => rfl
  have b5 := F5.binds (ps := ["expansion", "index"]) fun _ _ _ _ _ _ us hl => match us, hl with | [_, _], _ => rfl
  have b6 := F6.binds (ps := ["p", "q", "d"]) fun _ _ _ _ _ _ us hl => match us, hl with | [_, _, _], _ => rfl
  have b7 := F7.binds (ps := ["d"]) fun _ _ _ _ _ _ us hl => match us, hl with | [_], _ => rfl
  have b8 := F8.binds (ps := ["script", "k"]) fun _ _ _ _ _ _ us hl => match us, hl with | [_, _], _ => rfl
  have b9 := F9.binds (ps := ["cell", "many"]) fun _ _ _ _ _ _ us hl => match us, hl with | [_, _], _ => rfl
  have b10 := F10.binds (ps := ["script"]) fun _ _ _ _ _ _ us hl => match us, hl with | [_], _ => rfl
  have b11 := F11.binds (ps := ["state", "many"]) fun _ _ _ _ _ _ us hl => match us, hl with | [_, _], _ => rfl
  have b12 := F12.binds (ps := ["state", "many"]) fun _ _ _ _ _ _ us hl => match us, hl with | [_, _], _ => rfl
  have b13 := F13.binds (ps := ["n"]) fun _ _ _ _ _ _ us hl => match us, hl with | [_], _ => rfl
  have b14 := F14.binds (ps := ["d"]) fun _ _ _ _ _ _ us hl => match us, hl with | [_], _ => rfl
  have b15 := F15.binds (ps := ["script"]) fun _ _ _ _ _ _ us hl => match us, hl with | [_], _ => rfl
  let fa : Nat → Addr := fun i => [f0, f1, f2, f3, f4, f5, f6, f7, f8, f9, f10, f11, f12, f13, f14, f].getD i 0
  let fd : Nat → FuncData := fun i => match i with
    | 0 => PySem.W.fnOf "floor_root" "floor_root" (defArgs sFloorRoot) (defBody sFloorRoot) (defScope sFloorRoot) .none kV0 dc0 pm0 an0 cd0 ct0
    | 1 => PySem.W.fnOf "is_square" "is_square" (defArgs sIsSquare) (defBody sIsSquare) (defScope sIsSquare) .none kV1 dc1 pm1 an1 cd1 ct1
    | 2 => PySem.W.fnOf "expand" "expand" (defArgs sExpand) (defBody sExpand) (defScope sExpand) .none kV2 dc2 pm2 an2 cd2 ct2
    | 3 => PySem.W.fnOf "_part_of" "_part_of" (defArgs sPartOf) (defBody sPartOf) (defScope sPartOf) .none kV3 dc3 pm3 an3 cd3 ct3
    | 4 => PySem.W.fnOf "convergents" "convergents" (defArgs sConvergents) (defBody sConvergents) (defScope sConvergents) .none kV4 dc4 pm4 an4 cd4 ct4
    | 5 => PySem.W.fnOf "part_at" "part_at" (defArgs sPartAt) (defBody sPartAt) (defScope sPartAt) .none kV5 dc5 pm5 an5 cd5 ct5
    | 6 => PySem.W.fnOf "even_turn" "even_turn" (defArgs sEvenTurn) (defBody sEvenTurn) (defScope sEvenTurn) .none kV6 dc6 pm6 an6 cd6 ct6
    | 7 => PySem.W.fnOf "pell" "pell" (defArgs sPell) (defBody sPell) (defScope sPell) .none kV7 dc7 pm7 an7 cd7 ct7
    | 8 => PySem.W.fnOf "_law_cell" "_law_cell" (defArgs sLawCell) (defBody sLawCell) (defScope sLawCell) .none kV8 dc8 pm8 an8 cd8 ct8
    | 9 => PySem.W.fnOf "_law_numbers" "_law_numbers" (defArgs sLawNumbers) (defBody sLawNumbers) (defScope sLawNumbers) .none kV9 dc9 pm9 an9 cd9 ct9
    | 10 => PySem.W.fnOf "_law_state" "_law_state" (defArgs sLawState) (defBody sLawState) (defScope sLawState) .none kV10 dc10 pm10 an10 cd10 ct10
    | 11 => PySem.W.fnOf "_law_next" "_law_next" (defArgs sLawNext) (defBody sLawNext) (defScope sLawNext) .none kV11 dc11 pm11 an11 cd11 ct11
    | 12 => PySem.W.fnOf "_law_wide" "_law_wide" (defArgs sLawWide) (defBody sLawWide) (defScope sLawWide) .none kV12 dc12 pm12 an12 cd12 ct12
    | 13 => PySem.W.fnOf "_law_root" "_law_root" (defArgs sLawRoot) (defBody sLawRoot) (defScope sLawRoot) .none kV13 dc13 pm13 an13 cd13 ct13
    | 14 => PySem.W.fnOf "_law_pell" "_law_pell" (defArgs sLawPell) (defBody sLawPell) (defScope sLawPell) .none kV14 dc14 pm14 an14 cd14 ct14
    | _ => PySem.W.fnOf "law" "law" (defArgs sLaw) (defBody sLaw) (defScope sLaw) .none kV15 dc15 pm15 an15 cd15 ct15
  have T : Txt K mg fa fd := {
    F_floor_root := F0, B_floor_root := b0, G_floor_root := PySem.W.mg_of X G a0,
    F_is_square := F1, B_is_square := b1, G_is_square := PySem.W.mg_of X G a1,
    F_expand := F2, B_expand := b2, G_expand := PySem.W.mg_of X G a2,
    F__part_of := F3, B__part_of := b3, G__part_of := PySem.W.mg_of X G a3,
    F_convergents := F4, B_convergents := b4, G_convergents := PySem.W.mg_of X G a4,
    F_part_at := F5, B_part_at := b5, G_part_at := PySem.W.mg_of X G a5,
    F_even_turn := F6, B_even_turn := b6, G_even_turn := PySem.W.mg_of X G a6,
    F_pell := F7, B_pell := b7, G_pell := PySem.W.mg_of X G a7,
    F__law_cell := F8, B__law_cell := b8, G__law_cell := PySem.W.mg_of X G a8,
    F__law_numbers := F9, B__law_numbers := b9, G__law_numbers := PySem.W.mg_of X G a9,
    F__law_state := F10, B__law_state := b10, G__law_state := PySem.W.mg_of X G a10,
    F__law_next := F11, B__law_next := b11, G__law_next := PySem.W.mg_of X G a11,
    F__law_wide := F12, B__law_wide := b12, G__law_wide := PySem.W.mg_of X G a12,
    F__law_root := F13, B__law_root := b13, G__law_root := PySem.W.mg_of X G a13,
    F__law_pell := F14, B__law_pell := b14, G__law_pell := PySem.W.mg_of X G a14,
    F_law := F15, B_law := b15, G_law := PySem.W.mg_of X G a15,
    m_abs := PySem.W.mg_none_of X G z0, m_int := PySem.W.mg_none_of X G z1, m_len := PySem.W.mg_none_of X G z2, m_list := PySem.W.mg_none_of X G z3, m_range := PySem.W.mg_none_of X G z4, m_tuple := PySem.W.mg_none_of X G z5, g_isqrt := PySem.W.mg_of X G i0 }
  exact ⟨fd 15, fun s v => .of_eq rfl, fun base _ _ => okLaw T⟩
end Wc
open PySem PySem.W PyProof.Rows
set_option maxHeartbeats 0 in
theorem PySem.Challenge.cw_wholeconic_k06_convergents_and_pell_holds : PySem.Challenge.rw_wholeconic_k06_convergents_and_pell.Holds := by
  w_on; o_law; k_head; (case hw => w_witness2)
  k_fill
  refine L2.walk_of (l := PySem.Challenge.rw_wholeconic_k06_convergents_and_pell) (n := 63) (k := 6) (x := "script") (CX := fun _ => L2.CX0) (sp := fun w => Wc.spLaw _) rfl (by decide) rfl ⟨rfl, by decide, by decide⟩ (fun w h Y => PySem.W.kIn_of Y) ?F (fun _ _ a ns hl _ hS => ⟨a, ns, rfl, hS, hl, fun _ => rfl⟩) (fun _ _ _ _ _ h => h)
  case F =>
    intro w mg fa h KX G hmg
    refine' Wc.all_mk KX G hmg ?a0 ?l0 ?c0 ?k0 ?a1 ?l1 ?c1 ?k1 ?a2 ?l2 ?c2 ?k2 ?a3 ?l3 ?c3 ?k3 ?a4 ?l4 ?c4 ?k4 ?a5 ?l5 ?c5 ?k5 ?a6 ?l6 ?c6 ?k6 ?a7 ?l7 ?c7 ?k7 ?a8 ?l8 ?c8 ?k8 ?a9 ?l9 ?c9 ?k9 ?a10 ?l10 ?c10 ?k10 ?a11 ?l11 ?c11 ?k11 ?a12 ?l12 ?c12 ?k12 ?a13 ?l13 ?c13 ?k13 ?a14 ?l14 ?c14 ?k14 ?a15 ?l15 ?c15 ?k15 ?z0 ?z1 ?z2 ?z3 ?z4 ?z5 ?i0
    (case a0 => k_is); (case l0 => k_is); (case c0 => k_is); (case k0 => k_is); (case a1 => k_is); (case l1 => k_is); (case c1 => k_is); (case k1 => k_is); (case a2 => k_is); (case l2 => k_is); (case c2 => k_is); (case k2 => k_is); (case a3 => k_is); (case l3 => k_is); (case c3 => k_is); (case k3 => k_is); (case a4 => k_is); (case l4 => k_is); (case c4 => k_is); (case k4 => k_is); (case a5 => k_is); (case l5 => k_is); (case c5 => k_is); (case k5 => k_is); (case a6 => k_is); (case l6 => k_is); (case c6 => k_is); (case k6 => k_is); (case a7 => k_is); (case l7 => k_is); (case c7 => k_is); (case k7 => k_is); (case a8 => k_is); (case l8 => k_is); (case c8 => k_is); (case k8 => k_is); (case a9 => k_is); (case l9 => k_is); (case c9 => k_is); (case k9 => k_is); (case a10 => k_is); (case l10 => k_is); (case c10 => k_is); (case k10 => k_is); (case a11 => k_is); (case l11 => k_is); (case c11 => k_is); (case k11 => k_is); (case a12 => k_is); (case l12 => k_is); (case c12 => k_is); (case k12 => k_is); (case a13 => k_is); (case l13 => k_is); (case c13 => k_is); (case k13 => k_is); (case a14 => k_is); (case l14 => k_is); (case c14 => k_is); (case k14 => k_is); (case a15 => k_is); (case l15 => k_is); (case c15 => k_is); (case k15 => k_is); (case z0 => k_is); (case z1 => k_is); (case z2 => k_is); (case z3 => k_is); (case z4 => k_is); (case z5 => k_is); (case i0 => k_is)
