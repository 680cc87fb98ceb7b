import PyProof.Rows.All
import Wide.All
import OpenK.AllK
import Wide.FinOn
import HandS.ForMost
import HandS.Wide
import HandS.Gcd
import HandS.Style
import HandS.IsInst
import HandS.Codes
import Flt.RightSqrt
import PySem.Challenge.RW_wholeconic_k00_common_measures
set_option Elab.async false
set_option linter.all false
set_option maxRecDepth 100000
set_option maxHeartbeats 4000000
namespace Wc
open PySem PySem.Spec PyProof.Rows L2
/-! ### the text -/
def topS (i : Nat) : Stmt := PySem.Challenge.pw_wholeconic_k00_common_measures.main.body.getD i (.Pass ⟨0, 0, 0, 0⟩)
abbrev sBezout : Stmt := topS 2
theorem scBezout : FnScope ["a", "b", "g", "u", "v", "rest", "rest_u", "rest_v", "part"] ["a", "b"] (defScope sBezout) := ⟨rfl, rfl, rfl, by decide +kernel, rfl, by decide +kernel, by decide +kernel⟩
abbrev sMeasure : Stmt := topS 3
theorem scMeasure : FnScope ["numbers", "found", "number"] ["numbers"] (defScope sMeasure) := ⟨rfl, rfl, rfl, by decide +kernel, rfl, by decide +kernel, by decide +kernel⟩
abbrev sLawCell : Stmt := topS 5
theorem scLawCell : FnScope ["script", "k"] ["script", "k"] (defScope sLawCell) := ⟨rfl, rfl, rfl, by decide +kernel, rfl, by decide +kernel, by decide +kernel⟩
abbrev sLawNumbers : Stmt := topS 6
theorem scLawNumbers : FnScope ["cell", "many", "rest", "span", "numbers", "k", "mixed"] ["cell", "many"] (defScope sLawNumbers) := ⟨rfl, rfl, rfl, by decide +kernel, rfl, by decide +kernel, by decide +kernel⟩
abbrev sLawState : Stmt := topS 7
theorem scLawState : FnScope ["script", "numbers", "k"] ["script"] (defScope sLawState) := ⟨rfl, rfl, rfl, by decide +kernel, rfl, by decide +kernel, by decide +kernel⟩
abbrev sLawNext : Stmt := topS 8
theorem scLawNext : FnScope ["state", "many", "number"] ["state", "many"] (defScope sLawNext) := ⟨rfl, rfl, rfl, by decide +kernel, rfl, by decide +kernel, by decide +kernel⟩
abbrev sLawWide : Stmt := topS 9
theorem scLawWide : FnScope ["state", "many", "total", "k"] ["state", "many"] (defScope sLawWide) := ⟨rfl, rfl, rfl, by decide +kernel, rfl, by decide +kernel, by decide +kernel⟩
abbrev sLawMeasure : Stmt := topS 10
theorem scLawMeasure : FnScope ["a", "b", "k"] ["a", "b"] (defScope sLawMeasure) := ⟨rfl, rfl, rfl, by decide +kernel, rfl, by decide +kernel, by decide +kernel⟩
abbrev sLawGreat : Stmt := topS 11
theorem scLawGreat : FnScope ["state", "great", "k", "low", "high"] ["state"] (defScope sLawGreat) := ⟨rfl, rfl, rfl, by decide +kernel, rfl, by decide +kernel, by decide +kernel⟩
abbrev sLaw : Stmt := topS 12
theorem scLaw : FnScope ["script", "state", "g", "row", "told", "many", "due", "number", "passed", "k"] ["script"] (defScope sLaw) := ⟨rfl, rfl, rfl, by decide +kernel, rfl, by decide +kernel, by decide +kernel⟩
structure Txt (K : PySem.W.Frag) (mg : Str → Option Value) (fa : Nat → Addr) (fd : Nat → FuncData) : Prop where
  F_bezout : Fun K "bezout" "bezout" sBezout (fa 0) (fd 0)
  B_bezout : Binds K (fd 0) ["a", "b"] []
  G_bezout : mg "bezout" = some (.ref (fa 0))
  F_measure : Fun K "measure" "measure" sMeasure (fa 1) (fd 1)
  B_measure : Binds K (fd 1) ["numbers"] []
  G_measure : mg "measure" = some (.ref (fa 1))
  F__law_cell : Fun K "_law_cell" "_law_cell" sLawCell (fa 2) (fd 2)
  B__law_cell : Binds K (fd 2) ["script", "k"] []
  G__law_cell : mg "_law_cell" = some (.ref (fa 2))
  F__law_numbers : Fun K "_law_numbers" "_law_numbers" sLawNumbers (fa 3) (fd 3)
  B__law_numbers : Binds K (fd 3) ["cell", "many"] []
  G__law_numbers : mg "_law_numbers" = some (.ref (fa 3))
  F__law_state : Fun K "_law_state" "_law_state" sLawState (fa 4) (fd 4)
  B__law_state : Binds K (fd 4) ["script"] []
  G__law_state : mg "_law_state" = some (.ref (fa 4))
  F__law_next : Fun K "_law_next" "_law_next" sLawNext (fa 5) (fd 5)
  B__law_next : Binds K (fd 5) ["state", "many"] []
  G__law_next : mg "_law_next" = some (.ref (fa 5))
  F__law_wide : Fun K "_law_wide" "_law_wide" sLawWide (fa 6) (fd 6)
  B__law_wide : Binds K (fd 6) ["state", "many"] []
  G__law_wide : mg "_law_wide" = some (.ref (fa 6))
  F__law_measure : Fun K "_law_measure" "_law_measure" sLawMeasure (fa 7) (fd 7)
  B__law_measure : Binds K (fd 7) ["a", "b"] []
  G__law_measure : mg "_law_measure" = some (.ref (fa 7))
  F__law_great : Fun K "_law_great" "_law_great" sLawGreat (fa 8) (fd 8)
  B__law_great : Binds K (fd 8) ["state"] []
  G__law_great : mg "_law_great" = some (.ref (fa 8))
  F_law : Fun K "law" "law" sLaw (fa 9) (fd 9)
  B_law : Binds K (fd 9) ["script"] []
  G_law : mg "law" = some (.ref (fa 9))
  m_abs : mg "abs" = none
  m_bool : mg "bool" = none
  m_int : mg "int" = none
  m_isinstance : mg "isinstance" = none
  m_len : mg "len" = none
  m_range : mg "range" = none
  m_tuple : mg "tuple" = none
  g_gcd : mg "gcd" = some (.builtin "math.gcd")

/-! ### heaps, draws -/
theorem same_upd {H : Hp} {p : Addr} {o : HO} (h : H p = none) : Same H (upd H p o) := fun b x e => by
  rw [upd_ne (ne_of_none e h)]
  exact e
theorem same_mut {H0 H : Hp} {p : Addr} {o : HO} (s : Same H0 H) (h : H0 p = none) : Same H0 (upd H p o) := fun b x e => by
  rw [upd_ne (ne_of_none e h)]
  exact s _ _ e
theorem same_off {H H' : Hp} {p : Addr} {o : HO} {q : Addr} (f : ∀ b, b ≠ p → H' b = H b) (n : q ≠ p) (h : H q = some o) : H' q = some o := by
  rw [f q n]
  exact h
/-- the state of the draws: the list at p, its numbers at a, at most N draws so far -/
def Dw (H : Hp) (p a : Addr) (N : Nat) : Prop := ∃ (m : Nat) (ns : List Int), m ≤ N ∧ a ≠ p ∧ H p = some (.lst [.ref a, .int (m : Int)]) ∧ H a = some (.lst (ns.map V.int)) ∧ ns.length = 120 ∧ ∀ n ∈ ns, 0 ≤ n ∧ n < 1000
theorem Dw.same {H H' : Hp} {p a : Addr} {N : Nat} (s : Same H H') (d : Dw H p a N) : Dw H' p a N := by
  obtain ⟨m, ns, h1, h2, h3, h4, h5⟩ := d
  exact ⟨m, ns, h1, h2, s _ _ h3, s _ _ h4, h5⟩
theorem Dw.mono {H : Hp} {p a : Addr} {N M : Nat} (d : Dw H p a N) (h : N ≤ M) : Dw H p a M := by
  obtain ⟨m, ns, h1, h2⟩ := d
  exact ⟨m, ns, Nat.le_trans h1 h, h2⟩
theorem Dw.new {H : Hp} {p a q : Addr} {o : HO} {N : Nat} (d : Dw H p a N) (h : H q = none) : Dw (upd H q o) p a N := d.same (same_upd h)
theorem Dw.ne {H : Hp} {p a q : Addr} {N : Nat} (d : Dw H p a N) (h : H q = none) : q ≠ p ∧ q ≠ a := by
  obtain ⟨m, ns, h1, h2, h3, h4, h5⟩ := d
  exact ⟨(ne_of_none h3 h).symm, (ne_of_none h4 h).symm⟩
theorem Dw.mut {H : Hp} {p a q : Addr} {o : HO} {N : Nat} (d : Dw H p a N) (hp : q ≠ p) (ha : q ≠ a) : Dw (upd H q o) p a N := by
  obtain ⟨m, ns, h1, h2, h3, h4, h5⟩ := d
  exact ⟨m, ns, h1, h2, by rw [upd_ne hp.symm]; exact h3, by rw [upd_ne ha.symm]; exact h4, h5⟩
theorem at_mem {α : Type} {xs : List α} {r : Int} (h0 : 0 ≤ r) (h1 : r < xs.length) : ∃ v, v ∈ xs ∧ atI xs r = some v := by
  obtain ⟨j, rfl⟩ := Int.eq_ofNat_of_zero_le h0
  have hj : j < xs.length := by omega
  exact ⟨xs[j], List.getElem_mem hj, atI_nat (List.getElem?_eq_getElem hj)⟩
theorem at_int {ns : List Int} {r : Int} (h0 : 0 ≤ r) (h1 : r < ns.length) : ∃ n ∈ ns, atI (ns.map V.int) r = some (.int n) := by
  obtain ⟨v, hv, e⟩ := at_mem (xs := ns.map V.int) h0 (by rw [List.length_map]; exact h1)
  obtain ⟨n, hn, rfl⟩ := List.mem_map.mp hv
  exact ⟨n, hn, e⟩
theorem pow_ok {i j : Int} (h : 0 ≤ j ∧ j ≤ 1000000 ∧ i.natAbs < 2 ^ 64) : CPow i j := h
theorem wayF {c A B : Prop} [Decidable c] (h : ¬ c) (b : B) : if decide c = true then A else B := by
  rw [if_neg (fun z => h (of_decide_eq_true z))]
  exact b
theorem wayT {c A B : Prop} [Decidable c] (h : c) (a : A) : if decide c = true then A else B := by
  rw [if_pos (decide_eq_true h)]
  exact a
theorem wayNF {c A B : Prop} [Decidable c] (h : c) (b : B) : if (!decide c) = true then A else B := by
  rw [decide_eq_true h]
  exact iteF b
theorem wayNT {c A B : Prop} [Decidable c] (h : ¬ c) (a : A) : if (!decide c) = true then A else B := by
  rw [decide_eq_false h]
  exact iteT a
theorem way2 {c A B : Prop} [Decidable c] (h1 : c → A) (h2 : ¬ c → B) : if decide c = true then A else B := by
  by_cases h : c
  · exact wayT h (h1 h)
  · exact wayF h (h2 h)
theorem wayN2 {c A B : Prop} [Decidable c] (h1 : ¬ c → A) (h2 : c → B) : if (!decide c) = true then A else B := by
  by_cases h : c
  · exact wayNF h (h2 h)
  · exact wayNT h (h1 h)
theorem abs_int (i : Int) : (if i < 0 then -i else i) = (i.natAbs : Int) := by
  split <;> omega
theorem small200 {n : Nat} (h : n ≤ 1000) : n ≤ sizeLine := Nat.le_of_lt (small1000 h)
/-! ### data: == of lists and tuples -/
theorem dp_ints {K : PySem.W.Frag} {H : Hp} : ∀ ns : List Int, DpAll K H (ns.map V.int) (ns.map PyData.int)
  | [] => .nil
  | n :: ns => .cons (.int n) (dp_ints ns)
theorem lay_ints : ∀ ns : List Int, PyData.canLayAll0 (ns.map PyData.int) = true
  | [] => rfl
  | n :: ns => by
    rw [List.map_cons, PyData.canLayAll0, lay_ints ns]
    rfl
theorem depth_ints : ∀ ns : List Int, PyData.depthAll (ns.map PyData.int) = 0
  | [] => rfl
  | n :: ns => by
    rw [List.map_cons, PyData.depthAll, depth_ints ns]
    rfl
theorem shaped_ints (ns : List Int) : SeqAt.shaped (.list (ns.map PyData.int)) = true := by
  show (PyData.canLay0 (.list (ns.map PyData.int)) && decide (PyData.depth (.list (ns.map PyData.int)) ≤ 64)) = true
  rw [Bool.and_eq_true]
  refine ⟨by rw [PyData.canLay0]; exact lay_ints ns, decide_eq_true ?_⟩
  rw [PyData.depth, depth_ints]
  decide
theorem shaped_intsT (ns : List Int) : SeqAt.shaped (.tuple (ns.map PyData.int)) = true := by
  show (PyData.canLay0 (.tuple (ns.map PyData.int)) && decide (PyData.depth (.tuple (ns.map PyData.int)) ≤ 64)) = true
  rw [Bool.and_eq_true]
  refine ⟨by rw [PyData.canLay0]; exact lay_ints ns, decide_eq_true ?_⟩
  rw [PyData.depth, depth_ints]
  decide
theorem eqD_same {K : PySem.W.Frag} {H : Hp} {x y : V} {Q : VK} {d : PyData} (hx : Dp K H x d) (hy : Dp K H y d) (sh : SeqAt.shaped d = true) (q : Q (.bl true) H) : rEqD K x y H Q :=
  ⟨d, d, hx, hy, sh, sh, by rw [SeqAt.eqv_refl d (SeqAt.canLay_of_shaped sh)]; exact q⟩
theorem neD_same {K : PySem.W.Frag} {H : Hp} {x y : V} {Q : VK} {d : PyData} (hx : Dp K H x d) (hy : Dp K H y d) (sh : SeqAt.shaped d = true) (q : Q (.bl false) H) : rNeD K x y H Q :=
  ⟨d, d, hx, hy, sh, sh, by rw [SeqAt.eqv_refl d (SeqAt.canLay_of_shaped sh)]; exact q⟩
/-! ### slices -/
theorem cut_to (ns : List Int) (k : Nat) : cutV (ns.map V.int) none (some (k : Int)) = (ns.take k).map V.int := by
  unfold cutV
  rw [HT.sIx_none, HT.sIx_nat, List.drop_zero, List.map_take, Nat.sub_zero, List.length_map]
  by_cases h : k ≤ ns.length
  · rw [Nat.min_eq_left h]
  · rw [Nat.min_eq_right (by omega), List.take_of_length_le (by rw [List.length_map]; omega), List.take_of_length_le (by rw [List.length_map]; omega)]
theorem cut_from (xs : List V) (k : Nat) : cutV xs (some (k : Int)) none = xs.drop k := by
  unfold cutV
  rw [HT.sIx_none, HT.sIx_nat]
  by_cases h : k ≤ xs.length
  · rw [Nat.min_eq_left h, List.take_of_length_le (by rw [List.length_drop]; omega)]
  · rw [Nat.min_eq_right (by omega), List.drop_of_length_le (by omega), List.drop_of_length_le (by omega)]
    exact List.take_nil
theorem isiF {K : PySem.W.Frag} {H : Hp} {i : Int} {Q : VK} (q : Q (.bl false) H) : rIsi K [.int i, .ty "bool"] H Q := ⟨_, _, _, _, false, rfl, ClsV.ty _, TyX.base (.int i), kit_ty (by decide +kernel), q⟩
theorem isiT {K : PySem.W.Frag} {H : Hp} {b : Bool} {Q : VK} (q : Q (.bl true) H) : rIsi K [.bl b, .ty "bool"] H Q := ⟨_, _, _, _, true, rfl, ClsV.ty _, TyX.base (.bl b), kit_ty (by decide +kernel), q⟩
theorem isiTup {K : PySem.W.Frag} {H : Hp} {a : Addr} {xs : List V} {Q : VK} (h : H a = some (.tup xs)) (q : Q (.bl true) H) : rIsi K [.ref a, .ty "tuple"] H Q := ⟨_, _, _, _, true, rfl, ClsV.ty _, TyX.base (.tup h), kit_ty (by decide +kernel), q⟩
theorem isiLst {K : PySem.W.Frag} {H : Hp} {a : Addr} {xs : List V} {Q : VK} (h : H a = some (.lst xs)) (q : Q (.bl true) H) : rIsi K [.ref a, .ty "list"] H Q := ⟨_, _, _, _, true, rfl, ClsV.ty _, TyX.base (.lst h), kit_ty (by decide +kernel), q⟩
/-! ### rules with the written part named -/
section
variable {X : Cx}
def rLenQ (K : PySem.W.Frag) : List V → Hp → VK → Prop := fun xs H Q => ∃ p ys, xs = [.ref p] ∧ (SqL K H p ys ∨ SqT K H p ys) ∧ Q (.int ys.length) H
def rListQ (K : PySem.W.Frag) : List V → Hp → VK → Prop := fun xs H Q => ∃ p ys, xs = [.ref p] ∧ (SqL K H p ys ∨ SqT K H p ys) ∧ ∀ l, H l = none → Q (.ref l) (upd H l (.lst ys))
def rTupQ (K : PySem.W.Frag) : List V → Hp → VK → Prop := fun xs H Q => ∃ p ys, xs = [.ref p] ∧ ((SqL K H p ys ∧ ∀ l, H l = none → Q (.ref l) (upd H l (.tup ys))) ∨ (SqT K H p ys ∧ Q (.ref p) H))
theorem ixL (K : PySem.W.Frag) (h : X.K = K := by rfl) : IxR X (rIxL K) := by subst h; exact ix_list
theorem ixT (K : PySem.W.Frag) (h : X.K = K := by rfl) : IxR X (rIxT K) := by subst h; exact ix_tup
theorem slL (K : PySem.W.Frag) (h : X.K = K := by rfl) : SlR X (rSlL K) := by subst h; exact sl_list
theorem slT (K : PySem.W.Frag) (h : X.K = K := by rfl) : SlR X (rSlT K) := by subst h; exact sl_tup
theorem lenQ (K : PySem.W.Frag) (h : X.K = K := by rfl) : CallR X (.builtin "len") (rLenQ K) := by subst h; exact call_len_seq
theorem listQ (K : PySem.W.Frag) (h : X.K = K := by rfl) : CallR X (.type "list") (rListQ K) := by subst h; exact call_list_of
theorem tupQ (K : PySem.W.Frag) (h : X.K = K := by rfl) : CallR X (.type "tuple") (rTupQ K) := by subst h; exact call_tuple_of
theorem isiQ (K : PySem.W.Frag) (h : X.K = K := by rfl) : CallR X (.builtin "isinstance") (rIsi K) := by subst h; exact call_isi
theorem eqDQ (K : PySem.W.Frag) (hu : X.A.units + 64 < cLine) (h : X.K = K := by rfl) : OpR X (compareOp .Eq) (rEqD K) := by subst h; exact op_eqD hu
theorem neDQ (K : PySem.W.Frag) (hu : X.A.units + 64 < cLine) (h : X.K = K := by rfl) : OpR X (compareOp .NotEq) (rNeD K) := by subst h; exact op_neD hu
theorem piL (K : PySem.W.Frag) {tg l : Expr} {tl : TE} (hl : PE X l tl) (h : X.K = K := by rfl) : PI X tg l (iList K tl) := by subst h; exact pi_list hl
theorem piT (K : PySem.W.Frag) {tg l : Expr} {tl : TE} (hl : PE X l tl) (h : X.K = K := by rfl) : PI X tg l (iTup K tl) := by subst h; exact pi_tup hl
theorem inQ (K : PySem.W.Frag) (h : X.K = K := by rfl) : OpR X (compareOp .In) (rIn K false) := by subst h; exact op_in_seq
theorem notInQ (K : PySem.W.Frag) (h : X.K = K := by rfl) : OpR X (compareOp .NotIn) (rIn K true) := by subst h; exact op_notIn_seq
end
/-! ### great numbers -/
section
variable {X : Cx}
/-- // by any divisor below 2 ^ 9000 -/
def CDivX (_ j : Int) : Prop := j ≠ 0 ∧ j.natAbs < 2 ^ 9000
theorem op_fdivX : OpR X (binaryOp .FloorDiv) (rI CDivX fun i j => .int (i.fdiv j)) := opI fun i j _ _ _ _ _ hc q =>
  floordiv_int hc.1 q (.inl (PyProof.noPylong_of_log2 (PySem.Flt.log2_lt_of (by decide) hc.2)))
end
theorem pow_up {n a b : Nat} (h : n < 2 ^ a) (hab : a ≤ b) : n < 2 ^ b := Nat.lt_of_lt_of_le h (Nat.pow_le_pow_right (by decide) hab)

/-! ### whole roots -/
section
variable {X : Cx}
theorem cr_isqrt : CallR X (.builtin "math.isqrt") (fun vs H Q => ∃ i : Int, vs = [.int i] ∧ 0 ≤ i ∧ i.natAbs < 2 ^ 13000 ∧ Q (.int ((Float64.isqrt i.toNat : Nat) : Int)) H) := by
  intro pins s σ H vs us Q I r h
  obtain ⟨i, rfl, h0, h1, q⟩ := h
  obtain ⟨u, rfl, t, rfl⟩ := vals1 r
  have hl : i.toNat.log2 < 13000 := PySem.Flt.log2_lt_of (by decide) (by omega)
  exact call_function_meets PySem.W.MGF.kind_isqrt PySem.W.MGF.plain_isqrt PySem.W.MGF.entry_isqrt (PySem.W.MGF.args_isqrt _) (PySem.W.mg_run_isqrt i t (by omega) (by omega) (by omega)).meets ⟨.int _, H, I.tok _, ⟨_, rfl⟩, q⟩
end
def rootI (n : Int) : Int := ((Float64.isqrt n.toNat : Nat) : Int)
theorem rootI_spec {n : Int} (h : 0 ≤ n) : 0 ≤ rootI n ∧ rootI n * rootI n ≤ n ∧ n < (rootI n + 1) * (rootI n + 1) := by
  obtain ⟨k, rfl⟩ := Int.eq_ofNat_of_zero_le h
  have e := Float64.isqrt_spec k
  unfold rootI
  have e2 : Int.toNat (k : Int) = k := rfl
  rw [e2]
  generalize Float64.isqrt k = m at e ⊢
  refine ⟨Int.natCast_nonneg m, ?_, ?_⟩
  · exact_mod_cast e.1
  · exact_mod_cast e.2
theorem rootI_lt {n : Int} {b : Nat} (h : 0 ≤ n) (hb : n.natAbs < 2 ^ b) : (rootI n).natAbs < 2 ^ b := by
  obtain ⟨h0, h1, h2⟩ := rootI_spec h
  have h3 : rootI n ≤ n := by
    by_cases e : rootI n = 0
    · omega
    · have h4 : 1 * rootI n ≤ rootI n * rootI n := Int.mul_le_mul_of_nonneg_right (by omega) h0
      omega
  omega
/-! ### common measures -/
def gI (a b : Int) : Int := ((Nat.gcd a.natAbs b.natAbs : Nat) : Int)
theorem gI_nn (a b : Int) : 0 ≤ gI a b := Int.natCast_nonneg _
theorem gI_lt {a b : Int} {B : Nat} (ha : a.natAbs < B) (hb : b.natAbs < B) : (gI a b).natAbs < B := by
  unfold gI
  rw [Int.natAbs_natCast]
  by_cases h : a.natAbs = 0
  · rw [h, Nat.gcd_zero_left]
    exact hb
  · exact Nat.lt_of_le_of_lt (Nat.gcd_le_left _ (by omega)) ha
def gL (ns : List Int) : Int := ns.foldl gI 0
theorem gL_take {ns : List Int} {i : Nat} {x : Int} (h : ns[i]? = some x) : gL (ns.take (i + 1)) = gI (gL (ns.take i)) x := by
  unfold gL
  rw [List.take_add_one, h, List.foldl_append]
  rfl
/-- one step of the walk of measures: what // and the rest are -/
theorem fd_rest {g r : Int} (h : r ≠ 0) : (g - g.fdiv r * r).natAbs < r.natAbs ∧ (0 < r → 0 ≤ g - g.fdiv r * r) ∧ (r < 0 → g - g.fdiv r * r ≤ 0) := by
  have e : g - g.fdiv r * r = g.fmod r := by
    rw [Int.fmod_def, Int.mul_comm]
  rw [e]
  by_cases hr : 0 < r
  · have h1 := Int.fmod_nonneg_of_pos g hr
    have h2 := Int.fmod_lt_of_pos g hr
    refine ⟨by omega, fun _ => h1, fun _ => by omega⟩
  · have h1 := Int.fmod_nonneg_of_pos (-g) (b := -r) (by omega)
    have h2 := Int.fmod_lt_of_pos (-g) (b := -r) (by omega)
    rw [Int.neg_fmod_neg] at h1 h2
    refine ⟨by omega, fun _ => by omega, fun _ => by omega⟩
theorem gcd_step (g q r : Int) : Nat.gcd r.natAbs (g - q * r).natAbs = Nat.gcd g.natAbs r.natAbs := by
  have e1 : Int.gcd r (g - q * r) = Int.gcd r g := by
    rw [Int.sub_eq_add_neg, ← Int.neg_mul]
    exact Int.gcd_add_mul_right_right ..
  have e2 : Int.gcd r g = Int.gcd g r := Int.gcd_comm r g
  exact e1.trans e2
theorem step_lt {g rest u ru q r B : Nat} (hg : g = q * rest + r) (h : ru * g + u * rest ≤ B) : (u + q * ru) * rest + ru * r ≤ B := by
  have e : (u + q * ru) * rest + ru * r = ru * g + u * rest := by
    rw [hg, Nat.add_mul, Nat.mul_add, Nat.mul_comm q ru, Nat.mul_assoc]
    omega
  omega
/-- the state of bezout's walk -/
def Bz (a b g u v r ru rv : Int) : Prop := u * a + v * b = g ∧ ru * a + rv * b = r ∧ (((Nat.gcd g.natAbs r.natAbs : Nat) : Int) = gI a b ∧ u.natAbs ≤ a.natAbs + 2 * b.natAbs + 1 ∧ v.natAbs ≤ a.natAbs + 2 * b.natAbs + 1) ∧
  ((g = a ∧ r = b ∧ u = 1 ∧ v = 0 ∧ ru = 0 ∧ rv = 1) ∨
    (((0 ≤ g ∧ 0 ≤ r) ∨ (g ≤ 0 ∧ r ≤ 0)) ∧ g.natAbs ≤ b.natAbs ∧ r.natAbs < g.natAbs ∧
      ru.natAbs * g.natAbs + u.natAbs * r.natAbs ≤ a.natAbs + 2 * b.natAbs ∧ rv.natAbs * g.natAbs + v.natAbs * r.natAbs ≤ a.natAbs + 2 * b.natAbs))
theorem same_div {g r : Int} (h : (0 ≤ g ∧ 0 < r) ∨ (g ≤ 0 ∧ r < 0)) : g.natAbs = (g.fdiv r).natAbs * r.natAbs + (g - g.fdiv r * r).natAbs := by
  have hr : r ≠ 0 := by omega
  obtain ⟨h1, h2, h3⟩ := fd_rest (g := g) hr
  have hq : 0 ≤ g.fdiv r := by
    rcases h with ⟨a, b⟩ | ⟨a, b⟩
    · exact Int.fdiv_nonneg a (by omega)
    · rw [← Int.neg_fdiv_neg]
      exact Int.fdiv_nonneg (by omega) (by omega)
  obtain ⟨q, e⟩ := Int.eq_ofNat_of_zero_le hq
  rw [e] at h2 h3 ⊢
  rcases h with ⟨a, b⟩ | ⟨a, b⟩
  · have k := h2 b
    have z : g = (q : Int) * r + (g - (q : Int) * r) := by omega
    obtain ⟨r', rfl⟩ := Int.eq_ofNat_of_zero_le (show 0 ≤ r by omega)
    have e2 : ((q * r' : Nat) : Int) = (q : Int) * (r' : Int) := Int.natCast_mul q r'
    rw [Int.natAbs_natCast, Int.natAbs_natCast]
    rw [← e2] at k ⊢
    omega
  · have k := h3 b
    obtain ⟨r', hr'⟩ := Int.eq_ofNat_of_zero_le (show 0 ≤ -r by omega)
    have er : r = -(r' : Int) := by omega
    subst er
    have e2 : ((q * r' : Nat) : Int) = (q : Int) * (r' : Int) := Int.natCast_mul q r'
    rw [Int.mul_neg, ← e2] at k ⊢
    rw [Int.natAbs_natCast, Int.natAbs_neg, Int.natAbs_natCast]
    omega
theorem abs_sub_mul (u q ru : Int) : (u - q * ru).natAbs ≤ u.natAbs + q.natAbs * ru.natAbs := by
  rw [← Int.natAbs_mul]
  omega
theorem Bz.size {a b g u v r ru rv : Int} (h : Bz a b g u v r ru rv) (hr : r ≠ 0) : (g.fdiv r).natAbs ≤ a.natAbs + b.natAbs + 1 ∧ r.natAbs ≤ b.natAbs ∧ ru.natAbs ≤ a.natAbs + 2 * b.natAbs + 1 ∧ rv.natAbs ≤ a.natAbs + 2 * b.natAbs + 1 := by
  obtain ⟨h1, h2, h3, h4⟩ := h
  obtain ⟨k1, k2, k3⟩ := fd_rest (g := g) hr
  have z2 : (g.fdiv r).natAbs * r.natAbs ≤ g.natAbs + r.natAbs := by
    rw [← Int.natAbs_mul]
    omega
  have z3 : (g.fdiv r).natAbs ≤ g.natAbs + 1 := by
    by_cases z : (g.fdiv r).natAbs ≤ g.natAbs + 1
    · exact z
    · have z4 : (g.natAbs + 2) * r.natAbs ≤ (g.fdiv r).natAbs * r.natAbs := Nat.mul_le_mul_right _ (by omega)
      have z5 : g.natAbs * 1 ≤ g.natAbs * r.natAbs := Nat.mul_le_mul_left _ (by omega)
      rw [Nat.add_mul] at z4
      omega
  rcases h4 with ⟨e1, e2, e3, e4, e5, e6⟩ | ⟨e1, e2, e3, e4, e5⟩
  · rw [e5, e6]
    refine ⟨?_, ?_, ?_, ?_⟩ <;> first | omega | (subst e1 e2; omega)
  · have z4 : ru.natAbs * 1 ≤ ru.natAbs * g.natAbs := Nat.mul_le_mul_left _ (by omega)
    have z5 : rv.natAbs * 1 ≤ rv.natAbs * g.natAbs := Nat.mul_le_mul_left _ (by omega)
    refine ⟨by omega, by omega, by omega, by omega⟩
theorem Bz.step {a b g u v r ru rv : Int} (h : Bz a b g u v r ru rv) (hr : r ≠ 0) : Bz a b r ru rv (g - g.fdiv r * r) (u - g.fdiv r * ru) (v - g.fdiv r * rv) := by
  have sz := h.size hr
  obtain ⟨h1, h2, h3, h4⟩ := h
  obtain ⟨k1, k2, k3⟩ := fd_rest (g := g) hr
  refine ⟨h2, ?_, ⟨by rw [gcd_step]; exact h3.1, sz.2.2⟩, .inr ⟨?_, ?_, k1, ?_, ?_⟩⟩
  · rw [← h1, ← h2]
    generalize (u * a + v * b).fdiv (ru * a + rv * b) = q
    rw [Int.sub_mul, Int.sub_mul, Int.mul_add, Int.mul_assoc, Int.mul_assoc]
    omega
  · by_cases z : 0 < r
    · exact .inl ⟨by omega, k2 z⟩
    · exact .inr ⟨by omega, k3 (by omega)⟩
  · rcases h4 with ⟨e1, e2, _⟩ | ⟨_, e2, e3, _⟩
    · rw [e2]
      omega
    · omega
  · rcases h4 with ⟨e1, e2, e3, e4, e5, e6⟩ | ⟨e1, e2, e3, e4, e5⟩
    · rw [e3, e5, e2]
      simp
      omega
    · refine Nat.le_trans (Nat.add_le_add_right (Nat.mul_le_mul_right _ (abs_sub_mul u (g.fdiv r) ru)) _) (step_lt (same_div ?_) e4)
      omega
  · rcases h4 with ⟨e1, e2, e3, e4, e5, e6⟩ | ⟨e1, e2, e3, e4, e5⟩
    · rw [e4, e6]
      have z := abs_sub_mul 0 (g.fdiv r) 1
      have z2 : (g.fdiv r).natAbs * r.natAbs ≤ g.natAbs + r.natAbs := by
        rw [← Int.natAbs_mul]
        omega
      have z3 := Nat.mul_le_mul_right r.natAbs z
      have z4 : (Int.natAbs 0 + (g.fdiv r).natAbs * Int.natAbs 1) * r.natAbs = (g.fdiv r).natAbs * r.natAbs := by simp
      rw [z4] at z3
      have z5 : Int.natAbs 1 * (g - g.fdiv r * r).natAbs = (g - g.fdiv r * r).natAbs := by simp
      rw [z5]
      subst e1 e2
      omega
    · refine Nat.le_trans (Nat.add_le_add_right (Nat.mul_le_mul_right _ (abs_sub_mul v (g.fdiv r) rv)) _) (step_lt (same_div ?_) e5)
      omega

/-! ### the law's own measure -/
theorem em_step {a b i B : Nat} (hb : b ≠ 0) (h : (i = 0 ∧ a * b * 2 < B) ∨ (b ≤ a ∧ a * b * 2 ^ i < B)) : a % b ≤ b ∧ b * (a % b) * 2 ^ (i + 1) < B := by
  have h1 : a % b < b := Nat.mod_lt _ (by omega)
  refine ⟨by omega, ?_⟩
  rcases h with ⟨rfl, h⟩ | ⟨hl, h⟩
  · have h2 : b * (a % b) ≤ b * a := Nat.mul_le_mul_left _ (Nat.mod_le _ _)
    rw [Nat.mul_comm b a] at h2
    have e : (2 : Nat) ^ (0 + 1) = 2 := rfl
    rw [e]
    omega
  · have h2 : 2 * (a % b) ≤ a := by
      have h3 := Nat.div_add_mod a b
      have h4 : 1 ≤ a / b := Nat.div_pos hl (by omega)
      have h5 : b * 1 ≤ b * (a / b) := Nat.mul_le_mul_left _ h4
      omega
    have h3 : b * (2 * (a % b)) ≤ b * a := Nat.mul_le_mul_left _ h2
    have e : b * (a % b) * 2 ^ (i + 1) = b * (2 * (a % b)) * 2 ^ i := by
      rw [Nat.pow_succ]
      ac_rfl
    rw [e]
    refine Nat.lt_of_le_of_lt (Nat.mul_le_mul_right _ h3) ?_
    rw [Nat.mul_comm b a]
    exact h
theorem em_end {a b G B : Nat} (hG : Nat.gcd a b = G) (h : (20000 = 0 ∧ a * b * 2 < B) ∨ (b ≤ a ∧ a * b * 2 ^ 20000 < B)) (hB : B ≤ 2 ^ 20000) : a = G := by
  rcases h with ⟨h, _⟩ | ⟨hl, h⟩
  · cases h
  · have h1 : a * b = 0 := by
      by_cases z : a * b = 0
      · exact z
      · have h2 : 1 * 2 ^ 20000 ≤ a * b * 2 ^ 20000 := Nat.mul_le_mul_right _ (by omega)
        rw [Nat.one_mul] at h2
        omega
    have hb : b = 0 := by
      rcases Nat.mul_eq_zero.mp h1 with z | z
      · omega
      · exact z
    rw [hb, Nat.gcd_zero_right] at hG
    exact hG
theorem abs_cast (i : Int) : (if i < 0 then -i else i) = ((i.natAbs : Nat) : Int) := by
  split <;> omega
section
variable {P : Program} {w : World} {K : PySem.W.Frag} {mg : Str → Option Value} {base : Heap} {fa : Nat → Addr} {fd : Nat → FuncData}
def spBezout (_ : PySem.W.Frag) : Sp := fun vs H Q _ => ∃ a b : Int, vs = [.int a, .int b] ∧ a.natAbs < 2 ^ 9400 ∧ b.natAbs < 2 ^ 8990 ∧
  ∀ p u v, H p = none → u * a + v * b = gI a b → u.natAbs < 2 ^ 9404 → v.natAbs < 2 ^ 9404 → Q (.ref p) (upd H p (.tup [.int (gI a b), .int u, .int v]))
theorem okBezout (T : Txt K mg fa fd) : FnOk P w K mg base CX0 1 (fa 0) (fd 0) ["a", "b"] (spBezout K) := by
  refine T.F_bezout.ok scBezout (fun vs H Q E h => ?_) (fun cdv A outer s H vs Q E hr h => ?_)
  · obtain ⟨a, b, rfl, ha, hb, q⟩ := h
    rfl
  · obtain ⟨a, b, rfl, ha, hb, q⟩ := h
    refine ⟨_, (pss_cons (ps_par3 (i := 2) (j := 3) (l := 4) (by rfl) scBezout.nd rfl rfl rfl (by decide) (by decide) (by decide) rfl rfl rfl (pa_cons (pv 0) (pa_cons pe_int (pa_cons pe_int pa_nil))) (by rfl))
      (pss_cons (ps_par3 (i := 5) (j := 6) (l := 7) (by rfl) scBezout.nd rfl rfl rfl (by decide) (by decide) (by decide) rfl rfl rfl (pa_cons (pv 1) (pa_cons pe_int (pa_cons pe_int pa_nil))) (by rfl))
      (pss_cons (ps_while PassesOwn.never (pt_cmp (pc_neI (pv 5) pe_int))
      (pss_cons (ps_set (i := 8) scBezout.nd rfl (Or.inl rfl) (pe_op op_fdivX (pv 2) (pv 5)))
        (pss_cons (ps_par (i := 2) (j := 5) (by rfl) scBezout.nd rfl rfl (by decide) rfl rfl (pa_cons (pv 5) (pa_cons (pe_op op_sub (pv 2) (pe_op op_mulW (pv 8) (pv 5))) pa_nil)) (by rfl))
        (pss_cons (ps_par (i := 3) (j := 6) (by rfl) scBezout.nd rfl rfl (by decide) rfl rfl (pa_cons (pv 6) (pa_cons (pe_op op_sub (pv 3) (pe_op op_mulW (pv 8) (pv 6))) pa_nil)) (by rfl))
        (pss_one (ps_par (i := 4) (j := 7) (by rfl) scBezout.nd rfl rfl (by decide) rfl rfl (pa_cons (pv 7) (pa_cons (pe_op op_sub (pv 4) (pe_op op_mulW (pv 8) (pv 7))) pa_nil)) (by rfl)))))))
      (pss_cons (ps_if (pt_cmp (pc_lt (pv 2) pe_int))
      (pss_one (ps_ret (pe_tup (pa_cons (pe_un un_neg (pv 2)) (pa_cons (pe_un un_neg (pv 3)) (pa_cons (pe_un un_neg (pv 4)) pa_nil))))))
      pss_nil)
      (pss_one (ps_ret (pe_tup (pa_cons (pv 2) (pa_cons (pv 3) (pa_cons (pv 4) pa_nil)))))))))), ?_⟩
    refine ⟨_, rfl, _, _, _, rfl, _, rfl, _, _, _, rfl, ?_⟩
    refine ⟨fun m σ H' => ∃ (g u v r ru rv : Int) (x8 : Option V), σ = [some (.int a), some (.int b), some (.int g), some (.int u), some (.int v), some (.int r), some (.int ru), some (.int rv), x8] ∧ m = r.natAbs ∧ H' = H ∧ Bz a b g u v r ru rv,
      ⟨_, a, 1, 0, b, 0, 1, none, rfl, rfl, rfl, by omega, by omega, ⟨rfl, by omega, by omega⟩, .inl ⟨rfl, rfl, rfl, rfl, rfl, rfl⟩⟩, ?_⟩
    rintro m σ H' ⟨g, u, v, r, ru, rv, x8, rfl, rfl, rfl, hz⟩
    refine ⟨_, rfl, _, _, rfl, rfl, _, rfl, wayN2 (fun hr => ?_) (fun hr => ?_)⟩
    · obtain ⟨s1, s2, s3, s4⟩ := hz.size hr
      have up : (2 : Nat) ^ 8990 ≤ 2 ^ 9400 := Nat.pow_le_pow_right (by decide) (by decide)
      have e4 : (2 : Nat) ^ 9404 = 2 ^ 9400 * 16 := Nat.pow_add 2 9400 4
      have q1 : (g.fdiv r).natAbs < 2 ^ 9404 := by omega
      have q2 : r.natAbs < 2 ^ 9000 := pow_up (Nat.lt_of_le_of_lt s2 hb) (by decide)
      have q3 : ru.natAbs < 2 ^ 9404 := by omega
      have q4 : rv.natAbs < 2 ^ 9404 := by omega
      refine ⟨fun σ' H2 => ∃ (g' u' v' r' ru' rv' : Int) (x8 : Option V), σ' = [some (.int a), some (.int b), some (.int g'), some (.int u'), some (.int v'), some (.int r'), some (.int ru'), some (.int rv'), x8] ∧ r'.natAbs < r.natAbs ∧ H2 = H' ∧ Bz a b g' u' v' r' ru' rv', ?_, ?_⟩
      · rintro σ' H2 ⟨g', u', v', r', ru', rv', x8', rfl, hl, rfl, hz'⟩
        exact ⟨_, hl, g', u', v', r', ru', rv', x8', rfl, rfl, rfl, hz'⟩
      · refine ⟨_, rfl, _, rfl, _, _, rfl, rfl, ⟨hr, q2⟩, ?_⟩
        refine ⟨_, rfl, _, rfl, _, rfl, _, rfl, _, _, rfl, rfl, wide_mul q1 q2 (by decide) (by decide) (by decide), _, _, rfl, rfl, _, _, rfl, ?_⟩
        refine ⟨_, rfl, _, rfl, _, rfl, _, rfl, _, _, rfl, rfl, wide_mul q1 q3 (by decide) (by decide) (by decide), _, _, rfl, rfl, _, _, rfl, ?_⟩
        refine ⟨_, rfl, _, rfl, _, rfl, _, rfl, _, _, rfl, rfl, wide_mul q1 q4 (by decide) (by decide) (by decide), _, _, rfl, rfl, _, _, rfl, ?_⟩
        exact ⟨_, _, _, _, _, _, _, rfl, (fd_rest hr).1, rfl, hz.step hr⟩
    · subst hr
      obtain ⟨h1, h2, ⟨h3, hu, hv⟩, h4⟩ := hz
      have up : (2 : Nat) ^ 8990 ≤ 2 ^ 9400 := Nat.pow_le_pow_right (by decide) (by decide)
      have e4 : (2 : Nat) ^ 9404 = 2 ^ 9400 * 16 := Nat.pow_add 2 9400 4
      have hg : ((g.natAbs : Nat) : Int) = gI a b := by
        rw [← h3]
        simp
      refine ⟨_, rfl, _, _, rfl, rfl, _, rfl, way2 (fun hn => ?_) (fun hn => ?_)⟩
      · refine ⟨_, rfl, _, rfl, _, rfl, _, rfl, _, rfl, _, rfl, by show 3 ≤ sizeLine; decide, fun p hp => ?_⟩
        have eg : -g = gI a b := by omega
        have k := q p (-u) (-v) hp (by rw [Int.neg_mul, Int.neg_mul]; omega) (by omega) (by omega)
        rw [← eg] at k
        exact k
      · refine ⟨_, rfl, _, rfl, _, rfl, by show 3 ≤ sizeLine; decide, fun p hp => ?_⟩
        have eg : g = gI a b := by omega
        have k := q p u v hp (by omega) (by omega) (by omega)
        rw [← eg] at k
        exact k
def spMeasure (K : PySem.W.Frag) : Sp := fun vs H Q _ => ∃ (l : Addr) (ns : List Int), vs = [.ref l] ∧ (SqL K H l (ns.map V.int) ∨ SqT K H l (ns.map V.int)) ∧ Q (.int (gL ns)) H
theorem okMeasure (T : Txt K mg fa fd) : FnOk P w K mg base CX0 1 (fa 1) (fd 1) ["numbers"] (spMeasure K) := by
  refine T.F_measure.ok scMeasure (fun vs H Q E h => ?_) (fun cdv A outer s H vs Q E hr h => ?_)
  · obtain ⟨l, ns, rfl, hS, q⟩ := h
    rfl
  · obtain ⟨l, ns, rfl, hS, q⟩ := h
    rcases hS with hS | hS
    · refine ⟨_, (pss_cons (ps_set (i := 1) scMeasure.nd rfl (Or.inl rfl) pe_int)
      (pss_cons (ps_for PassesOwn.never rfl (piL K (pv 0)) (pg_name (i := 2) scMeasure.nd rfl (Or.inl rfl))
      (pss_one (ps_set (i := 1) scMeasure.nd rfl (Or.inl rfl) (pe_callBfun cr_gcd (by rfl) T.g_gcd (pa_cons (pv 1) (pa_cons (pv 2) pa_nil))))))
      (pss_one (ps_ret (pv 1))))), ?_⟩
      refine ⟨_, rfl, l, rfl, ⟨_, hS⟩, for_list (K := K) (a := l) (xs := ns.map V.int) (fun i σ H' => ∃ x2, σ = [some (.ref l), some (.int (gL (ns.take i))), x2] ∧ H' = H) ⟨_, rfl, rfl⟩ (fun i σ H' hi ⟨x2, e1, e2⟩ => by rw [e2]; exact hS) (fun i x σ H' hx ⟨x2, e1, e2⟩ => ?_) (fun σ H' ⟨x2, e1, e2⟩ => ?_)⟩
      · subst e1 e2
        rw [List.getElem?_map] at hx
        cases hn : ns[i]? with
        | none =>
          rw [hn] at hx
          cases hx
        | some n =>
          rw [hn] at hx
          cases hx
          refine ⟨_, rfl, _, rfl, _, _, rfl, some (.int n), ?_, rfl⟩
          rw [gL_take hn]
          rfl
      · subst e1 e2
        refine ⟨_, rfl, ?_⟩
        rw [List.length_map, List.take_length]
        exact q
    · refine ⟨_, (pss_cons (ps_set (i := 1) scMeasure.nd rfl (Or.inl rfl) pe_int)
      (pss_cons (ps_for PassesOwn.never rfl (piT K (pv 0)) (pg_name (i := 2) scMeasure.nd rfl (Or.inl rfl))
      (pss_one (ps_set (i := 1) scMeasure.nd rfl (Or.inl rfl) (pe_callBfun cr_gcd (by rfl) T.g_gcd (pa_cons (pv 1) (pa_cons (pv 2) pa_nil))))))
      (pss_one (ps_ret (pv 1))))), ?_⟩
      refine ⟨_, rfl, l, rfl, ⟨_, hS⟩, for_tup (K := K) (a := l) (xs := ns.map V.int) (fun i σ H' => ∃ x2, σ = [some (.ref l), some (.int (gL (ns.take i))), x2] ∧ H' = H) ⟨_, rfl, rfl⟩ (fun i σ H' hi ⟨x2, e1, e2⟩ => by rw [e2]; exact hS) (fun i x σ H' hx ⟨x2, e1, e2⟩ => ?_) (fun σ H' ⟨x2, e1, e2⟩ => ?_)⟩
      · subst e1 e2
        rw [List.getElem?_map] at hx
        cases hn : ns[i]? with
        | none =>
          rw [hn] at hx
          cases hx
        | some n =>
          rw [hn] at hx
          cases hx
          refine ⟨_, rfl, _, rfl, _, _, rfl, some (.int n), ?_, rfl⟩
          rw [gL_take hn]
          rfl
      · subst e1 e2
        refine ⟨_, rfl, ?_⟩
        rw [List.length_map, List.take_length]
        exact q
def spLawCell (K : PySem.W.Frag) : Sp := fun vs H Q _ => ∃ (l : Addr) (ns : List Int) (j : Nat), vs = [.ref l, .int (j : Int)] ∧ SqL K H l (ns.map V.int) ∧ ∀ v : Int, Q (.int v) H
theorem okLawCell (T : Txt K mg fa fd) : FnOk P w K mg base CX0 1 (fa 2) (fd 2) ["script", "k"] (spLawCell K) := by
  refine T.F__law_cell.ok scLawCell (fun vs H Q E h => ?_) (fun cdv A outer s H vs Q E hr h => ?_)
  · obtain ⟨l, ns, j, rfl, hS, q⟩ := h
    rfl
  · obtain ⟨l, ns, j, rfl, hS, q⟩ := h
    refine ⟨_, (pss_cons (ps_if (pt_cmp (pc_lt (pv 1) (pe_callB (lenQ K) (by rfl) T.m_len (by decide +kernel) (pa_cons (pv 0) pa_nil))))
      (pss_one (ps_ret (pe_ix (ixL K) (pv 0) (pv 1) (fun _ _ => rfl))))
      pss_nil)
      (pss_one (ps_ret pe_int))), ?_⟩
    refine ⟨_, rfl, _, rfl, _, _, rfl, .inl hS, _, _, rfl, rfl, _, rfl, ite2 (fun e => ?_) (fun e => ?_)⟩
    · have e1 : (j : Int) < ((ns.map V.int).length : Int) := of_decide_eq_true e
      have hj : j < ns.length := by
        rw [List.length_map] at e1
        omega
      exact ⟨_, rfl, _, rfl, _, _, _, _, rfl, rfl, hS, atI_nat (by rw [List.getElem?_map, List.getElem?_eq_getElem hj]; rfl), q _⟩
    · exact q 0
def spLawNumbers (K : PySem.W.Frag) : Sp := fun vs H Q _ => ∃ (c : Int) (m : Nat), vs = [.int c, .int (m : Int)] ∧ m ≤ 100 ∧
  ∀ H' p (ns : List Int), Same H H' → H p = none → H' p = some (.lst (ns.map V.int)) → ns.length = m → (∀ n ∈ ns, 0 ≤ n ∧ n < 1000) → Q (.ref p) H'
theorem okLawNumbers (T : Txt K mg fa fd) : FnOk P w K mg base CX0 1 (fa 3) (fd 3) ["cell", "many"] (spLawNumbers K) := by
  refine T.F__law_numbers.ok scLawNumbers (fun vs H Q E h => ?_) (fun cdv A outer s H vs Q E hr h => ?_)
  · obtain ⟨c, m, rfl, hm, q⟩ := h
    rfl
  · obtain ⟨c, m, rfl, hm, q⟩ := h
    refine ⟨_, (pss_cons (ps_set (i := 2) scLawNumbers.nd rfl (Or.inl rfl) (pe_callB call_abs (by rfl) T.m_abs (by decide +kernel) (pa_cons (pv 0) pa_nil)))
      (pss_cons (ps_set (i := 3) scLawNumbers.nd rfl (Or.inl rfl) (pv 2))
      (pss_cons (ps_set (i := 4) scLawNumbers.nd rfl (Or.inl rfl) (pe_lst pa_nil))
      (pss_cons (ps_for PassesOwn.never rfl (pi_range1 (by rfl) T.m_range (pa_cons (pv 1) pa_nil)) (pg_name (i := 5) scLawNumbers.nd rfl (Or.inl rfl))
      (pss_one (ps_if (PW.pt (pw_and (pt_cmp (pc_ge (pv 3) (pe_op op_pow pe_int pe_int))) (pw_and1 (pt_cmp (pc_gt (pv 2) pe_int)))))
        (pss_cons (ps_expr (pe_bm PySem.F.plainAttrs_list PySem.F.slot_list_append PySem.F.type_list_append mt_append (pv 4) (pa_cons (pe_op op_mod (pe_callTy call_int1 (by rfl) T.m_int (by decide +kernel) (pa_cons (pv 2) pa_nil)) pe_int) pa_nil)))
          (pss_one (ps_set (i := 2) scLawNumbers.nd rfl (Or.inl rfl) (pe_op op_fdiv (pv 2) pe_int))))
        (pss_cons (ps_set (i := 6) scLawNumbers.nd rfl (Or.inl rfl) (pe_op op_mod (pe_callTy call_int1 (by rfl) T.m_int (by decide +kernel) (pa_cons (pe_op op_add (pe_op op_add (pe_op op_mul (pv 3) pe_int) (pe_op op_mul (pv 5) pe_int)) pe_int) pa_nil)) pe_int))
          (pss_cons (ps_set (i := 6) scLawNumbers.nd rfl (Or.inl rfl) (pe_op op_mod (pe_callTy call_int1 (by rfl) T.m_int (by decide +kernel) (pa_cons (pe_op op_add (pe_op op_add (pe_op op_mul (pv 6) (pv 6)) (pe_op op_mul pe_int (pv 5))) pe_int) pa_nil)) pe_int))
          (pss_one (ps_expr (pe_bm PySem.F.plainAttrs_list PySem.F.slot_list_append PySem.F.type_list_append mt_append (pv 4) (pa_cons (pe_op op_mod (pe_callTy call_int1 (by rfl) T.m_int (by decide +kernel) (pa_cons (pe_op op_fdiv (pv 6) pe_int) pa_nil)) pe_int) pa_nil)))))))))
      (pss_one (ps_ret (pv 4))))))), ?_⟩
    refine ⟨_, rfl, _, rfl, _, rfl, Nat.zero_le _, fun o no => ?_⟩
    refine ⟨_, rfl, _, rfl, by omega, by omega, for_range (lo := 0) (n := m) (fun i σ H' => ∃ (rest span : Int) (x5 x6 : Option V) (ns : List Int), σ = [some (.int c), some (.int (m : Int)), some (.int rest), some (.int span), some (.ref o), x5, x6] ∧ Same H H' ∧ H' o = some (.lst (ns.map V.int)) ∧ ns.length = i ∧ ∀ n ∈ ns, 0 ≤ n ∧ n < 1000)
      ⟨_, _, _, _, [], rfl, same_upd no, upd_same, rfl, fun n h => nomatch h⟩ (fun i σ H' hi ⟨rest, span, x5, x6, ns, hσ, hs, ho, hl, hb⟩ => ?_) (fun σ H' ⟨rest, span, x5, x6, ns, hσ, hs, ho, hl, hb⟩ => ?_)⟩
    · subst hσ
      have sz : (ns.map V.int).length < sizeLine := by
        rw [List.length_map]
        exact small1000 (by omega)
      have app : ∀ r : Int, 0 ≤ r → r < 1000 → (upd H' o (.lst (ns.map V.int ++ [V.int r]))) o = some (.lst ((ns ++ [r]).map V.int)) ∧ (ns ++ [r]).length = i + 1 ∧ ∀ n ∈ ns ++ [r], 0 ≤ n ∧ n < 1000 := fun r h0 h1 => by
        refine ⟨by rw [upd_same, List.map_append]; rfl, by rw [List.length_append, hl]; rfl, fun n hn => ?_⟩
        rcases List.mem_append.mp hn with hn | hn
        · exact hb n hn
        · rw [List.mem_singleton.mp hn]
          exact ⟨h0, h1⟩
      refine ⟨_, rfl, _, _, rfl, rfl, ⟨by decide, by decide, by decide⟩, _, _, rfl, rfl, _, rfl, ?_⟩
      have tl : ∀ (D : Ends) (rest' : Int) (x5' x6' : Option V) (r : Int), 0 ≤ r → r < 1000 → (∀ σ' H2, (∃ (rest span : Int) (x5 x6 : Option V) (ns : List Int), σ' = [some (.int c), some (.int (m : Int)), some (.int rest), some (.int span), some (.ref o), x5, x6] ∧ Same H H2 ∧ H2 o = some (.lst (ns.map V.int)) ∧ ns.length = i + 1 ∧ ∀ n ∈ ns, 0 ≤ n ∧ n < 1000) → D.nx σ' H2) → D.nx [some (.int c), some (.int (m : Int)), some (.int rest'), some (.int span), some (.ref o), x5', x6'] (upd H' o (.lst (ns.map V.int ++ [V.int r]))) := fun D rest' x5' x6' r h0 h1 k => by
        obtain ⟨a1, a2, a3⟩ := app r h0 h1
        exact k _ _ ⟨rest', span, x5', x6', _, rfl, same_mut hs no, a1, a2, a3⟩
      have m1 : ∀ z : Int, 0 ≤ z % 1000 ∧ z % 1000 < 1000 := fun z => by omega
      have m2 : ∀ z : Int, 0 ≤ z % 2147483647 ∧ z % 2147483647 < 2147483647 := fun z => by omega
      refine ite2 (fun e => ?_) (fun e => ?_)
      · refine ⟨_, rfl, _, _, rfl, rfl, _, rfl, ite2 (fun e => ?_) (fun e => ?_)⟩
        · refine ⟨_, rfl, .inl ⟨rfl, _, SqL.of ho⟩, _, rfl, .inl ⟨_, rfl, _, _, rfl, rfl, by show (0 : Int) < 1000; decide, _, _, _, rfl, rfl, ho, sz, ?_⟩⟩
          refine ⟨_, rfl, _, _, rfl, rfl, ⟨by decide, by decide⟩, ?_⟩
          obtain ⟨a1, a2, a3⟩ := app (rest % 1000) (m1 _).1 (m1 _).2
          exact ⟨_, _, _, _, _, rfl, same_mut hs no, a1, a2, a3⟩
        · refine ⟨_, rfl, _, _, rfl, rfl, .inr ⟨by decide, by decide⟩, _, rfl, _, _, rfl, rfl, .inr ⟨by decide, by decide⟩, _, _, rfl, rfl, _, _, rfl, rfl, .inl ⟨_, rfl, _, _, rfl, rfl, by show (0 : Int) < 2147483647; decide, ?_⟩⟩
          refine ⟨_, rfl, _, rfl, _, _, rfl, rfl, .inl ?_, _, rfl, _, _, rfl, rfl, .inl ⟨by decide, by decide⟩, _, _, rfl, rfl, _, _, rfl, rfl, .inl ⟨_, rfl, _, _, rfl, rfl, by show (0 : Int) < 2147483629; decide, ?_⟩⟩
          · have h := m2 (span * 48271 + (0 + (i : Int)) * 69621 + 11)
            omega
          refine ⟨_, rfl, .inl ⟨rfl, _, SqL.of ho⟩, _, rfl, _, _, rfl, rfl, ⟨by decide, by decide⟩, .inl ⟨_, rfl, _, _, rfl, rfl, by show (0 : Int) < 1000; decide, _, _, _, rfl, rfl, ho, sz, ?_⟩⟩
          obtain ⟨a1, a2, a3⟩ := app _ (m1 _).1 (m1 _).2
          exact ⟨_, _, _, _, _, rfl, same_mut hs no, a1, a2, a3⟩
      · refine iteF ?_
        refine ⟨_, rfl, _, _, rfl, rfl, .inr ⟨by decide, by decide⟩, _, rfl, _, _, rfl, rfl, .inr ⟨by decide, by decide⟩, _, _, rfl, rfl, _, _, rfl, rfl, .inl ⟨_, rfl, _, _, rfl, rfl, by show (0 : Int) < 2147483647; decide, ?_⟩⟩
        refine ⟨_, rfl, _, rfl, _, _, rfl, rfl, .inl ?_, _, rfl, _, _, rfl, rfl, .inl ⟨by decide, by decide⟩, _, _, rfl, rfl, _, _, rfl, rfl, .inl ⟨_, rfl, _, _, rfl, rfl, by show (0 : Int) < 2147483629; decide, ?_⟩⟩
        · have h := m2 (span * 48271 + (0 + (i : Int)) * 69621 + 11)
          omega
        refine ⟨_, rfl, .inl ⟨rfl, _, SqL.of ho⟩, _, rfl, _, _, rfl, rfl, ⟨by decide, by decide⟩, .inl ⟨_, rfl, _, _, rfl, rfl, by show (0 : Int) < 1000; decide, _, _, _, rfl, rfl, ho, sz, ?_⟩⟩
        obtain ⟨a1, a2, a3⟩ := app _ (m1 _).1 (m1 _).2
        exact ⟨_, _, _, _, _, rfl, same_mut hs no, a1, a2, a3⟩
    · subst hσ
      exact ⟨_, rfl, q _ _ ns hs no ho hl hb⟩
def spLawState (K : PySem.W.Frag) : Sp := fun vs H Q _ => ∃ (l : Addr) (ns : List Int), vs = [.ref l] ∧ SqL K H l (ns.map V.int) ∧ ∀ H' p a, Same H H' → Dw H' p a 0 → Q (.ref p) H'
theorem okLawState (T : Txt K mg fa fd) : FnOk P w K mg base CX0 2 (fa 4) (fd 4) ["script"] (spLawState K) := by
  refine T.F__law_state.ok scLawState (fun vs H Q E h => ?_) (fun cdv A outer s H vs Q E hr h => ?_)
  · obtain ⟨l, ns, rfl, hS, q⟩ := h
    rfl
  · obtain ⟨l, ns, rfl, hS, q⟩ := h
    refine ⟨_, (pss_cons (ps_set (i := 1) scLawState.nd rfl (Or.inl rfl) (pe_lst pa_nil))
      (pss_cons (ps_for PassesOwn.never rfl (pi_range1 (by rfl) T.m_range (pa_cons pe_int pa_nil)) (pg_name (i := 2) scLawState.nd rfl (Or.inl rfl))
      (pss_one (ps_set (i := 1) scLawState.nd rfl (Or.inl rfl) (pe_op op_cat (pv 1) (pe_call (okLawNumbers T) hr (by rfl) T.G__law_numbers T.F__law_numbers.kp T.B__law_numbers .nil pass0 (pa_cons (pe_op op_add (pe_callB call_abs (by rfl) T.m_abs (by decide +kernel) (pa_cons (pe_call (okLawCell T) hr (by rfl) T.G__law_cell T.F__law_cell.kp T.B__law_cell .nil pass0 (pa_cons (pv 0) (pa_cons (pv 2) pa_nil))) pa_nil)) (pe_op op_mul pe_int (pv 2))) (pa_cons pe_int pa_nil)))))))
      (pss_one (ps_ret (pe_lst (pa_cons (pv 1) (pa_cons pe_int pa_nil))))))), ?_⟩
    refine ⟨Nat.zero_le _, fun o no => ?_⟩
    refine ⟨3, rfl, by decide, by decide, for_range (lo := 0) (n := 3) (fun i σ H' => ∃ (o : Addr) (x2 : Option V) (ms : List Int), σ = [some (.ref l), some (.ref o), x2] ∧ Same H H' ∧ H' o = some (.lst (ms.map V.int)) ∧ ms.length = 40 * i ∧ ∀ n ∈ ms, 0 ≤ n ∧ n < 1000)
      ⟨o, none, [], rfl, same_upd no, upd_same, rfl, fun n h => nomatch h⟩ (fun i σ H' hi ⟨o, x2, ms, hσ, hs, ho, hl, hb⟩ => ?_) (fun σ H' ⟨o, x2, ms, hσ, hs, ho, hl, hb⟩ => ?_)⟩
    · subst hσ
      refine ⟨_, rfl, _, rfl, _, rfl, l, ns, i, ?_, hs.seq hS, fun v => ⟨_, rfl, _, rfl, _, _, rfl, rfl, .inl ⟨by decide, by decide⟩, _, _, rfl, rfl, _, 40, rfl, by decide, fun H2 u ks s2 nu hu kl kb => ?_⟩⟩
      · exact congrArg (fun t : Int => [V.ref l, V.int t]) (Int.zero_add _)
      refine ⟨_, _, _, _, rfl, rfl, s2 _ _ ho, hu, ?_, fun w nw => ?_⟩
      · rw [List.length_map, List.length_map]
        exact small200 (by omega)
      refine ⟨w, _, ms ++ ks, rfl, (hs.trans s2).trans (same_upd nw), ?_, ?_, fun n hn => ?_⟩
      · rw [upd_same, List.map_append]
      · rw [List.length_append]
        omega
      · rcases List.mem_append.mp hn with hn | hn
        · exact hb n hn
        · exact kb n hn
    · subst hσ
      refine ⟨_, rfl, by show 2 ≤ sizeLine; decide, fun p np => ?_⟩
      refine q _ p o (hs.trans (same_upd np)) ⟨0, ms, Nat.le_refl 0, ne_of_none ho np, upd_same, ?_, hl, hb⟩
      rw [upd_ne (ne_of_none ho np)]
      exact ho
def spLawNext (_ : PySem.W.Frag) : Sp := fun vs H Q _ => ∃ (p a : Addr) (many : Int) (N : Nat), vs = [.ref p, .int many] ∧ Dw H p a N ∧ N < 1000000000 ∧ 0 < many ∧
  ∀ r H', 0 ≤ r → r < many → Dw H' p a (N + 1) → (∀ b, b ≠ p → H' b = H b) → Q (.int r) H'
theorem okLawNext (T : Txt K mg fa fd) : FnOk P w K mg base CX0 1 (fa 5) (fd 5) ["state", "many"] (spLawNext K) := by
  refine T.F__law_next.ok scLawNext (fun vs H Q E h => ?_) (fun cdv A outer s H vs Q E hr h => ?_)
  · obtain ⟨p, a, many, N, rfl, ⟨m, ns, hm, hap, hp, ha, hl, hb⟩, hN, hmany, q⟩ := h
    rfl
  · obtain ⟨p, a, many, N, rfl, ⟨m, ns, hm, hap, hp, ha, hl, hb⟩, hN, hmany, q⟩ := h
    refine ⟨_, (pss_cons (ps_asg (pe_op op_add (pe_ix (ixL K) (pv 0) pe_int (fun _ _ => rfl)) pe_int) (pg_sub (pv 0) pe_int set_list))
      (pss_cons (ps_set (i := 2) scLawNext.nd rfl (Or.inl rfl) (pe_op op_add (pe_ix (ixL K) (pe_ix (ixL K) (pv 0) pe_int (fun _ _ => rfl)) (pe_op op_mod (pe_callTy call_int1 (by rfl) T.m_int (by decide +kernel) (pa_cons (pe_op op_mul (pe_ix (ixL K) (pv 0) pe_int (fun _ _ => rfl)) pe_int) pa_nil)) (pe_callB (lenQ K) (by rfl) T.m_len (by decide +kernel) (pa_cons (pe_ix (ixL K) (pv 0) pe_int (fun _ _ => rfl)) pa_nil))) (fun _ _ => rfl)) (pe_op op_mul (pe_op op_mul pe_int (pe_ix (ixL K) (pv 0) pe_int (fun _ _ => rfl))) (pe_op op_add pe_int (pe_op op_fdiv (pe_ix (ixL K) (pv 0) pe_int (fun _ _ => rfl)) (pe_callB (lenQ K) (by rfl) T.m_len (by decide +kernel) (pa_cons (pe_ix (ixL K) (pv 0) pe_int (fun _ _ => rfl)) pa_nil)))))))
      (pss_one (ps_ret (pe_op op_mod (pe_callTy call_int1 (by rfl) T.m_int (by decide +kernel) (pa_cons (pv 2) pa_nil)) (pv 1)))))), ?_⟩
    have eS : SqL K H p [.ref a, .int (m : Int)] := SqL.of hp
    refine ⟨_, rfl, _, _, _, _, rfl, rfl, eS, atI_nat (j := 1) rfl, _, _, rfl, rfl, _, rfl, _, _, _, 1, rfl, rfl, hp, rfl, ?_⟩
    have h1p : (upd H p (.lst [.ref a, .int ((m : Int) + 1)])) p = some (.lst [.ref a, .int ((m : Int) + 1)]) := upd_same
    have h1a : (upd H p (.lst [.ref a, .int ((m : Int) + 1)])) a = some (.lst (ns.map V.int)) := by
      rw [upd_ne hap]
      exact ha
    have fr : ∀ b, b ≠ p → (upd H p (.lst [.ref a, .int ((m : Int) + 1)])) b = H b := fun b hb => upd_ne hb
    show tSeq _ _ _ _ (upd H p (.lst [.ref a, .int ((m : Int) + 1)]))
    generalize upd H p (.lst [.ref a, .int ((m : Int) + 1)]) = H1 at h1p h1a fr
    have S1 : SqL K H1 p [.ref a, .int ((m : Int) + 1)] := SqL.of h1p
    have A1 : SqL K H1 a (ns.map V.int) := SqL.of h1a
    have hl2 : ((ns.map V.int).length : Int) = 120 := by
      rw [List.length_map, hl]
      rfl
    obtain ⟨x, hx, ex⟩ := at_int (ns := ns) (r := ((m : Int) + 1) * 7 % 120) (by omega) (by omega)
    refine ⟨_, rfl, _, _, _, _, rfl, rfl, S1, atI_nat (j := 0) rfl, _, rfl, _, _, _, _, rfl, rfl, S1, atI_nat (j := 1) rfl, _, _, rfl, rfl, .inr ⟨by decide, by decide⟩, .inl ⟨_, rfl, _, rfl, _, _, _, _, rfl, rfl, S1, atI_nat (j := 0) rfl, _, _, rfl, .inl A1, ?_⟩⟩
    rw [hl2]
    refine ⟨_, _, rfl, rfl, by show (0 : Int) < 120; decide, _, _, _, _, rfl, rfl, A1, ex, ?_⟩
    refine ⟨_, rfl, _, _, _, _, rfl, rfl, S1, atI_nat (j := 1) rfl, _, _, rfl, rfl, .inl ⟨by decide, by decide⟩, _, rfl, _, _, _, _, rfl, rfl, S1, atI_nat (j := 1) rfl, _, rfl, _, _, _, _, rfl, rfl, S1, atI_nat (j := 0) rfl, _, _, rfl, .inl A1, ?_⟩
    rw [hl2]
    refine ⟨_, _, rfl, rfl, ⟨by decide, by decide⟩, _, _, rfl, rfl, _, _, rfl, rfl, .inl ⟨by omega, by omega⟩, _, _, rfl, rfl, ?_⟩
    refine ⟨_, rfl, .inl ⟨_, rfl, _, rfl, _, _, rfl, rfl, hmany, ?_⟩⟩
    exact q _ _ (Int.emod_nonneg _ (by omega)) (Int.emod_lt_of_pos _ hmany) ⟨m + 1, ns, by omega, hap, h1p, h1a, hl, hb⟩ fr
def spLawWide (_ : PySem.W.Frag) : Sp := fun vs H Q _ => ∃ (p a : Addr) (many : Int) (N : Nat), vs = [.ref p, .int many] ∧ Dw H p a N ∧ N < 900000000 ∧ 0 < many ∧
  ∀ r H', 0 ≤ r → r < many → Dw H' p a (N + 6) → (∀ b, b ≠ p → H' b = H b) → Q (.int r) H'
theorem okLawWide (T : Txt K mg fa fd) : FnOk P w K mg base CX0 2 (fa 6) (fd 6) ["state", "many"] (spLawWide K) := by
  refine T.F__law_wide.ok scLawWide (fun vs H Q E h => ?_) (fun cdv A outer s H vs Q E hr h => ?_)
  · obtain ⟨p, a, many, N, rfl, hD, hN, hmany, q⟩ := h
    rfl
  · obtain ⟨p, a, many, N, rfl, hD, hN, hmany, q⟩ := h
    refine ⟨_, (pss_cons (ps_set (i := 2) scLawWide.nd rfl (Or.inl rfl) pe_int)
      (pss_cons (ps_for PassesOwn.never rfl (pi_range1 (by rfl) T.m_range (pa_cons pe_int pa_nil)) (pg_name (i := 3) scLawWide.nd rfl (Or.inl rfl))
      (pss_one (ps_set (i := 2) scLawWide.nd rfl (Or.inl rfl) (pe_op op_add (pe_op op_mul (pv 2) pe_int) (pe_call (okLawNext T) hr (by rfl) T.G__law_next T.F__law_next.kp T.B__law_next .nil pass0 (pa_cons (pv 0) (pa_cons pe_int pa_nil)))))))
      (pss_one (ps_ret (pe_op op_mod (pv 2) (pv 1)))))), ?_⟩
    refine ⟨6, rfl, by decide, by decide, for_range (lo := 0) (n := 6) (fun i σ H' => ∃ (t : Int) (x3 : Option V), σ = [some (.ref p), some (.int many), some (.int t), x3] ∧ Dw H' p a (N + i) ∧ ∀ b, b ≠ p → H' b = H b)
      ⟨0, none, rfl, hD, fun _ _ => rfl⟩ (fun i σ H' hi ⟨t, x3, hσ, hd, fr⟩ => ?_) (fun σ H' ⟨t, x3, hσ, hd, fr⟩ => ?_)⟩
    · subst hσ
      refine ⟨_, rfl, _, _, rfl, rfl, .inr ⟨by decide, by decide⟩, _, rfl, p, a, 1000, N + i, rfl, hd, by omega, by decide, fun r H2 h0 h1 hd2 fr2 => ?_⟩
      refine ⟨_, _, rfl, rfl, _, _, rfl, ?_, fun b hb => (fr2 b hb).trans (fr b hb)⟩
      exact hd2
    · subst hσ
      refine ⟨_, rfl, _, rfl, _, _, rfl, rfl, hmany, ?_⟩
      exact q _ _ (Int.emod_nonneg _ (by omega)) (Int.emod_lt_of_pos _ hmany) hd fr
def spLawMeasure (_ : PySem.W.Frag) : Sp := fun vs H Q _ => ∃ a b : Int, vs = [.int a, .int b] ∧ a.natAbs < 2 ^ 9400 ∧ b.natAbs < 2 ^ 9400 ∧ Q (.int (gI a b)) H
theorem okLawMeasure (T : Txt K mg fa fd) : FnOk P w K mg base CX0 1 (fa 7) (fd 7) ["a", "b"] (spLawMeasure K) := by
  refine T.F__law_measure.ok scLawMeasure (fun vs H Q E h => ?_) (fun cdv A outer s H vs Q E hr h => ?_)
  · obtain ⟨a, b, rfl, ha, hb, q⟩ := h
    rfl
  · obtain ⟨a, b, rfl, ha, hb, q⟩ := h
    refine ⟨_, (pss_cons (ps_set (i := 0) scLawMeasure.nd rfl (Or.inl rfl) (pe_callB call_abs (by rfl) T.m_abs (by decide +kernel) (pa_cons (pv 0) pa_nil)))
      (pss_cons (ps_set (i := 1) scLawMeasure.nd rfl (Or.inl rfl) (pe_callB call_abs (by rfl) T.m_abs (by decide +kernel) (pa_cons (pv 1) pa_nil)))
      (pss_cons (ps_for PassesOwn.never rfl (pi_range1 (by rfl) T.m_range (pa_cons pe_int pa_nil)) (pg_name (i := 2) scLawMeasure.nd rfl (Or.inl rfl))
      (pss_cons (ps_if (pt_cmp (pc_eqI (pv 1) pe_int))
        (pss_one (ps_ret (pv 0)))
        pss_nil)
        (pss_one (ps_par (i := 0) (j := 1) (by rfl) scLawMeasure.nd rfl rfl (by decide) rfl rfl (pa_cons (pv 1) (pa_cons (pe_op op_mod (pv 0) (pv 1)) pa_nil)) (by rfl)))))
      (pss_one (ps_ret (pv 0)))))), ?_⟩
    refine ⟨_, rfl, _, rfl, _, rfl, _, rfl, 20000, rfl, by decide, by decide, ?_⟩
    have hP : a.natAbs * b.natAbs * 2 < 2 ^ 18900 := by
      have e : (2 : Nat) ^ 18900 = 2 ^ 9400 * 2 ^ 9400 * 2 ^ 100 := (Nat.pow_add 2 (9400 + 9400) 100).trans (congrArg (· * 2 ^ 100) (Nat.pow_add 2 9400 9400))
      have h := Nat.mul_lt_mul'' ha hb
      rw [e]
      exact Nat.mul_lt_mul'' h (by decide)
    refine for_range (lo := 0) (n := 20000) (fun i σ H' => ∃ (x y : Nat) (x2 : Option V), σ = [some (.int (x : Int)), some (.int (y : Int)), x2] ∧ H' = H ∧ ((Nat.gcd x y : Nat) : Int) = gI a b ∧ ((i = 0 ∧ x * y * 2 < 2 ^ 18900) ∨ (y ≤ x ∧ x * y * 2 ^ i < 2 ^ 18900)))
      ⟨a.natAbs, b.natAbs, none, ?_, rfl, rfl, .inl ⟨rfl, hP⟩⟩ (fun i σ H' hi ⟨x, y, x2, e1, e2, hg, hz⟩ => ?_) (fun σ H' ⟨x, y, x2, e1, e2, hg, hz⟩ => ?_)
    · rw [abs_cast a, abs_cast b]
      rfl
    · subst e1 e2
      refine ⟨_, rfl, _, _, rfl, rfl, _, rfl, way2 (fun h => ?_) (fun h => ?_)⟩
      · refine ⟨_, rfl, ?_⟩
        have hy : y = 0 := by omega
        rw [hy, Nat.gcd_zero_right] at hg
        rw [← hg] at q
        exact q
      · have hy : y ≠ 0 := by omega
        obtain ⟨s1, s2⟩ := em_step hy hz
        refine ⟨_, rfl, _, rfl, _, rfl, _, _, rfl, rfl, by show (0 : Int) < (y : Int); omega, _, _, rfl, y, x % y, _, rfl, rfl, ?_, .inr ⟨s1, s2⟩⟩
        rw [← hg, Nat.gcd_comm y, ← Nat.gcd_rec, Nat.gcd_comm]
    · subst e1 e2
      have e : ((x : Nat) : Int) = gI a b := by
        have h := em_end (G := Nat.gcd x y) rfl hz (Nat.pow_le_pow_right (by decide) (by decide))
        rw [← hg, ← h]
      refine ⟨_, rfl, ?_⟩
      rw [← e] at q
      exact q
theorem grow_lt {r x : Int} {i : Nat} (h0 : 0 ≤ r) (h : r < 2 ^ (60 * (i + 1))) (x0 : 0 ≤ x) (x1 : x < 1000) : 0 ≤ r * (10 ^ 18 + 9) + x ∧ r * (10 ^ 18 + 9) + x < 2 ^ (60 * (i + 1 + 1)) := by
  have e : (2 : Int) ^ (60 * (i + 1 + 1)) = 2 ^ (60 * (i + 1)) * 2 ^ 60 := by
    rw [← Int.pow_add]
    congr 1
  rw [e]
  generalize (2 : Int) ^ (60 * (i + 1)) = B at h ⊢
  omega
theorem fib_lt {x y : Int} {i : Nat} (hx : 0 ≤ x) (hy : 0 ≤ y) (h1 : x < 2 ^ (4200 + i)) (h2 : y < 2 ^ (4200 + i)) : y < 2 ^ (4200 + (i + 1)) ∧ x + y < 2 ^ (4200 + (i + 1)) := by
  have e : (2 : Int) ^ (4200 + (i + 1)) = 2 ^ (4200 + i) * 2 := by
    rw [← Nat.add_assoc]
    exact Int.pow_succ _ _
  rw [e]
  generalize (2 : Int) ^ (4200 + i) = B at h1 h2 ⊢
  omega
theorem abs_lt {x : Int} {n : Nat} (h0 : 0 ≤ x) (h : x < 2 ^ n) : x.natAbs < 2 ^ n := by
  have e : ((2 ^ n : Nat) : Int) = 2 ^ n := Int.natCast_pow 2 n
  omega
theorem pow_le {x : Int} {a b : Nat} (h : x < 2 ^ a) (hab : a ≤ b) : x < 2 ^ b := by
  refine Int.lt_of_lt_of_le h ?_
  have e1 : ((2 ^ a : Nat) : Int) = 2 ^ a := Int.natCast_pow 2 a
  have e2 : ((2 ^ b : Nat) : Int) = 2 ^ b := Int.natCast_pow 2 b
  have e3 := Nat.pow_le_pow_right (n := 2) (by decide) hab
  omega
def spLawGreat (_ : PySem.W.Frag) : Sp := fun vs H Q _ => ∃ (p a : Addr) (N : Nat), vs = [.ref p] ∧ Dw H p a N ∧ N < 1000 ∧
  ∀ q H' (x y : Int), x.natAbs < 2 ^ 9400 → y.natAbs < 2 ^ 8990 → Dw H' p a 2000 → (∀ b o, b ≠ p → H b = some o → H' b = some o) → H q = none → H' q = some (.lst [.int x, .int y]) → Q (.ref q) H'
theorem okLawGreat (T : Txt K mg fa fd) : FnOk P w K mg base CX0 3 (fa 8) (fd 8) ["state"] (spLawGreat K) := by
  refine T.F__law_great.ok scLawGreat (fun vs H Q E h => ?_) (fun cdv A outer s H vs Q E hr h => ?_)
  · obtain ⟨p, a, N, rfl, hD, hN, q⟩ := h
    rfl
  · obtain ⟨p, a, N, rfl, hD, hN, q⟩ := h
    refine ⟨_, (pss_cons (ps_set (i := 1) scLawGreat.nd rfl (Or.inl rfl) (pe_op op_add pe_int (pe_call (okLawWide T) hr (by rfl) T.G__law_wide T.F__law_wide.kp T.B__law_wide .nil pass0 (pa_cons (pv 0) (pa_cons (pe_op op_pow pe_int pe_int) pa_nil)))))
      (pss_cons (ps_for PassesOwn.never rfl (pi_range1 (by rfl) T.m_range (pa_cons (pe_call (okLawNext T) (hr.mono (by decide)) (by rfl) T.G__law_next T.F__law_next.kp T.B__law_next .nil pass0 (pa_cons (pv 0) (pa_cons pe_int pa_nil))) pa_nil)) (pg_name (i := 2) scLawGreat.nd rfl (Or.inl rfl))
      (pss_one (ps_set (i := 1) scLawGreat.nd rfl (Or.inl rfl) (pe_op op_add (pe_op op_mul (pv 1) (pe_op op_add (pe_op op_pow pe_int pe_int) pe_int)) (pe_call (okLawNext T) (hr.mono (by decide)) (by rfl) T.G__law_next T.F__law_next.kp T.B__law_next .nil pass0 (pa_cons (pv 0) (pa_cons pe_int pa_nil)))))))
      (pss_cons (ps_set (i := 3) scLawGreat.nd rfl (Or.inl rfl) (pe_op op_add pe_int (pe_call (okLawNext T) (hr.mono (by decide)) (by rfl) T.G__law_next T.F__law_next.kp T.B__law_next .nil pass0 (pa_cons (pv 0) (pa_cons pe_int pa_nil)))))
      (pss_cons (ps_set (i := 4) scLawGreat.nd rfl (Or.inl rfl) (pv 1))
      (pss_cons (ps_for PassesOwn.never rfl (pi_range1 (by rfl) T.m_range (pa_cons (pe_call (okLawNext T) (hr.mono (by decide)) (by rfl) T.G__law_next T.F__law_next.kp T.B__law_next .nil pass0 (pa_cons (pv 0) (pa_cons pe_int pa_nil))) pa_nil)) (pg_name (i := 2) scLawGreat.nd rfl (Or.inl rfl))
      (pss_one (ps_par (i := 3) (j := 4) (by rfl) scLawGreat.nd rfl rfl (by decide) rfl rfl (pa_cons (pv 4) (pa_cons (pe_op op_add (pv 3) (pv 4)) pa_nil)) (by rfl))))
      (pss_one (ps_ret (pe_lst (pa_cons (pe_op op_mulW (pv 3) (pv 1)) (pa_cons (pv 4) pa_nil)))))))))), ?_⟩
    refine ⟨_, rfl, _, _, rfl, rfl, pow_ok (by decide), p, a, _, N, rfl, hD, by omega, by decide, fun r1 H1 r1a r1b d1 f1 => ⟨_, _, rfl, rfl, ?_⟩⟩
    refine ⟨_, rfl, p, a, 70, _, rfl, d1, by omega, by decide, fun r2 H2 r2a r2b d2 f2 => ⟨_, rfl, by omega, by omega, ?_⟩⟩
    refine for_range (lo := 0) (n := r2.toNat) (fun i σ H' => ∃ (r : Int) (x2 : Option V), σ = [some (.ref p), some (.int r), x2, none, none] ∧ 0 ≤ r ∧ r < 2 ^ (60 * (i + 1)) ∧ Dw H' p a (N + 7 + i) ∧ ∀ b, b ≠ p → H' b = H b)
      ⟨_, none, rfl, by omega, ?_, d2, fun b hb => (f2 b hb).trans (f1 b hb)⟩ (fun i σ H' hi ⟨r, x2, hσ, z0, z1, hd, fr⟩ => ?_) (fun σ H' ⟨r, x2, hσ, z0, z1, hd, fr⟩ => ?_)
    · have h : r1 < 1000000000000000000 := r1b
      show 1 + r1 < 1152921504606846976
      omega
    · subst hσ
      refine ⟨_, rfl, _, _, rfl, rfl, pow_ok (by decide), _, _, rfl, rfl, _, _, rfl, rfl, .inr ⟨by decide, by decide⟩, _, rfl, p, a, 1000, _, rfl, hd, by omega, by decide, fun x H3 xa xb hd2 f => ?_⟩
      exact ⟨_, _, rfl, rfl, _, _, rfl, (grow_lt z0 z1 xa xb).1, (grow_lt z0 z1 xa xb).2, hd2, fun b hb => (f b hb).trans (fr b hb)⟩
    · subst hσ
      have rb : r < 2 ^ 4200 := pow_le z1 (by omega)
      refine ⟨_, rfl, p, a, 9, _, rfl, hd, by omega, by decide, fun r3 H3 r3a r3b d3 f3 => ⟨_, _, rfl, rfl, _, rfl, ?_⟩⟩
      refine ⟨_, rfl, p, a, 900, _, rfl, d3, by omega, by decide, fun r4 H4 r4a r4b d4 f4 => ⟨_, rfl, by omega, by omega, ?_⟩⟩
      refine for_range (lo := 0) (n := r4.toNat) (fun i σ H' => ∃ (x y : Int) (x2 : Option V), σ = [some (.ref p), some (.int r), x2, some (.int x), some (.int y)] ∧ 0 ≤ x ∧ 0 ≤ y ∧ x < 2 ^ (4200 + i) ∧ y < 2 ^ (4200 + i) ∧ H' = H4)
        ⟨1 + r3, r, x2, rfl, by omega, z0, pow_le (a := 10) (by show 1 + r3 < 1024; omega) (by omega), rb, rfl⟩ (fun i σ H' hi ⟨x, y, x2, hσ, w0, w1, w2, w3, e⟩ => ?_) (fun σ H' ⟨x, y, x2, hσ, w0, w1, w2, w3, e⟩ => ?_)
      · subst hσ e
        refine ⟨_, rfl, _, rfl, _, rfl, _, _, rfl, rfl, _, _, rfl, y, x + y, _, rfl, w1, by omega, (fib_lt w0 w1 w2 w3).1, (fib_lt w0 w1 w2 w3).2, rfl⟩
      · subst hσ e
        have x51 : x < 2 ^ 5100 := pow_le w2 (by omega)
        have y51 : y < 2 ^ 5100 := pow_le w3 (by omega)
        have xn := abs_lt w0 x51
        have rn := abs_lt z0 rb
        refine ⟨_, rfl, _, rfl, _, _, rfl, rfl, wide_mul xn rn (by decide) (by decide) (by decide), _, rfl, by show 2 ≤ sizeLine; decide, fun o no => ?_⟩
        have fro : ∀ b, b ≠ p → H' b = H b := fun b hb => (f4 b hb).trans ((f3 b hb).trans (fr b hb))
        have op := (d4.ne no).1
        refine q o _ (x * r) y (pow_up (wide_lt xn rn) (by decide)) (pow_up (abs_lt w1 y51) (by decide)) ((d4.new no).mono (by omega)) (fun b u hb e => ?_) (by rw [← fro o op]; exact no) upd_same
        rw [← fro b hb] at e
        exact same_upd no _ _ e
def spLaw (K : PySem.W.Frag) : Sp := fun vs H Q _ => ∃ (a : Addr) (ns : List Int), vs = [.ref a] ∧ SqL K H a (ns.map V.int) ∧ ns.length ≤ 63 ∧ ∀ H', Q (.bl true) H'
theorem okLaw (T : Txt K mg fa fd) : FnOk P w K mg base CX0 4 (fa 9) (fd 9) ["script"] (spLaw K) := by
  refine T.F_law.ok scLaw (fun vs H Q E h => ?_) (fun cdv A outer s H vs Q E hr h => ?_)
  · obtain ⟨l, ns, rfl, hS, hlen, q⟩ := h
    rfl
  · obtain ⟨l, ns, rfl, hS, hlen, q⟩ := h
    refine ⟨_, (pss_cons (ps_set (i := 1) scLaw.nd rfl (Or.inr rfl) (pe_call (okLawState T) (hr.mono (by decide)) (by rfl) T.G__law_state T.F__law_state.kp T.B__law_state .nil pass0 (pa_cons (pv 0) pa_nil)))
      (pss_cons (ps_set (i := 2) scLaw.nd rfl (Or.inr rfl) (pe_ix (ixL K) (pe_lst (pa_cons pe_int (pa_cons (pe_op op_add pe_int (pe_call (okLawNext T) (hr.mono (by decide)) (by rfl) T.G__law_next T.F__law_next.kp T.B__law_next .nil pass0 (pa_cons (pv 1) (pa_cons pe_int pa_nil)))) (pa_cons (pe_op op_add pe_int (pe_call (okLawWide T) (hr.mono (by decide)) (by rfl) T.G__law_wide T.F__law_wide.kp T.B__law_wide .nil pass0 (pa_cons (pv 1) (pa_cons (pe_op op_pow pe_int pe_int) pa_nil)))) pa_nil)))) (pe_call (okLawNext T) (hr.mono (by decide)) (by rfl) T.G__law_next T.F__law_next.kp T.B__law_next .nil pass0 (pa_cons (pv 1) (pa_cons pe_int pa_nil))) (fun _ _ => rfl)))
      (pss_cons (ps_setLc (i := 3) (own := [("k", 9)]) (g := gName 9) (tt := tYes) rfl scLaw.nd rfl rfl (sw_true rfl rfl rfl (by decide +kernel)) (pi_range1 (by rfl) T.m_range (pa_cons pe_int pa_nil)) (blkOk_by (own := [("k", 9)]) (N := ["script", "state", "g", "row", "told", "many", "due", "number", "passed", "k"]) (sc := defScope sLaw) (by decide +kernel)) (fun _ _ _ _ _ => (pg_name (i := 9) scLaw.nd rfl (Or.inl rfl))) (fun _ _ _ _ _ => pts_nil) (fun _ _ _ _ _ => (pe_op op_mul (pe_op op_mul (pe_ix (ixL K) (pe_lst (pa_cons (pe_call (okLawNext T) (hr.mono (by decide)) (by rfl) T.G__law_next T.F__law_next.kp T.B__law_next .nil pass0 (pa_cons (pv 1) (pa_cons pe_int pa_nil))) (pa_cons (pe_call (okLawWide T) (hr.mono (by decide)) (by rfl) T.G__law_wide T.F__law_wide.kp T.B__law_wide .nil pass0 (pa_cons (pv 1) (pa_cons (pe_op op_pow pe_int pe_int) pa_nil))) (pa_cons pe_int pa_nil)))) (pe_call (okLawNext T) (hr.mono (by decide)) (by rfl) T.G__law_next T.F__law_next.kp T.B__law_next .nil pass0 (pa_cons (pv 1) (pa_cons pe_int pa_nil))) (fun _ _ => rfl)) (pv 2)) (pe_ix (ixL K) (pe_lst (pa_cons pe_int (pa_cons (pe_un un_neg pe_int) pa_nil))) (pe_call (okLawNext T) (hr.mono (by decide)) (by rfl) T.G__law_next T.F__law_next.kp T.B__law_next .nil pass0 (pa_cons (pv 1) (pa_cons pe_int pa_nil))) (fun _ _ => rfl)))))
      (C8.pss_cut (ps_if (pt_cmp (pc_eqI (pe_call (okLawNext T) (hr.mono (by decide)) (by rfl) T.G__law_next T.F__law_next.kp T.B__law_next .nil pass0 (pa_cons (pv 1) (pa_cons pe_int pa_nil))) pe_int))
      (pss_one (ps_set (i := 3) scLaw.nd rfl (Or.inl rfl) (pe_op op_cat (pe_call (okLawGreat T) hr (by rfl) T.G__law_great T.F__law_great.kp T.B__law_great .nil pass0 (pa_cons (pv 1) pa_nil)) (pe_slice (slL K) (pv 3) (po_some pe_int) po_none))))
      pss_nil)
      (pss_cons (ps_set (i := 4) scLaw.nd rfl (Or.inl rfl) (pe_call (okBezout T) (hr.mono (by decide)) (by rfl) T.G_bezout T.F_bezout.kp T.B_bezout .nil pass0 (pa_cons (pe_ix (ixL K) (pv 3) pe_int (fun _ _ => rfl)) (pa_cons (pe_ix (ixL K) (pv 3) pe_int (fun _ _ => rfl)) pa_nil))))
      (pss_cons (ps_if (PW.pt (pw_or (pt_not (pt_val (pe_callB (isiQ K) (by rfl) T.m_isinstance (by decide +kernel) (pa_cons (pv 4) (pa_cons (pe_bltn (v := .ty "tuple") (by rfl) T.m_tuple (by decide +kernel) rfl) pa_nil))))) (pw_or (pt_cmp (pc_neI (pe_callB (lenQ K) (by rfl) T.m_len (by decide +kernel) (pa_cons (pv 4) pa_nil)) pe_int)) (pw_or1 (pt_cmp (pc_neI (pe_ix (ixT K) (pv 4) pe_int (fun _ _ => rfl)) (pe_call (okLawMeasure T) (hr.mono (by decide)) (by rfl) T.G__law_measure T.F__law_measure.kp T.B__law_measure .nil pass0 (pa_cons (pe_ix (ixL K) (pv 3) pe_int (fun _ _ => rfl)) (pa_cons (pe_ix (ixL K) (pv 3) pe_int (fun _ _ => rfl)) pa_nil)))))))))
      (pss_one (ps_ret pe_bl))
      pss_nil)
      (pss_cons (ps_if (pt_cmp (pc_neI (pe_op op_add (pe_op op_mulW (pe_ix (ixT K) (pv 4) pe_int (fun _ _ => rfl)) (pe_ix (ixL K) (pv 3) pe_int (fun _ _ => rfl))) (pe_op op_mulW (pe_ix (ixT K) (pv 4) pe_int (fun _ _ => rfl)) (pe_ix (ixL K) (pv 3) pe_int (fun _ _ => rfl)))) (pe_ix (ixT K) (pv 4) pe_int (fun _ _ => rfl))))
      (pss_one (ps_ret pe_bl))
      pss_nil)
      (pss_cons (ps_set (i := 5) scLaw.nd rfl (Or.inl rfl) (pe_call (okLawNext T) (hr.mono (by decide)) (by rfl) T.G__law_next T.F__law_next.kp T.B__law_next .nil pass0 (pa_cons (pv 1) (pa_cons pe_int pa_nil))))
      (pss_cons (ps_set (i := 6) scLaw.nd rfl (Or.inl rfl) pe_int)
      (pss_cons (ps_for PassesOwn.never rfl (piL K (pe_slice (slL K) (pv 3) po_none (po_some (pv 5)))) (pg_name (i := 7) scLaw.nd rfl (Or.inl rfl))
      (pss_one (ps_set (i := 6) scLaw.nd rfl (Or.inl rfl) (pe_call (okLawMeasure T) (hr.mono (by decide)) (by rfl) T.G__law_measure T.F__law_measure.kp T.B__law_measure .nil pass0 (pa_cons (pv 6) (pa_cons (pv 7) pa_nil))))))
      (pss_cons (ps_set (i := 8) scLaw.nd rfl (Or.inl rfl) (pe_slice (slL K) (pv 3) po_none (po_some (pv 5))))
      (pss_cons (ps_set (i := 4) scLaw.nd rfl (Or.inl rfl) (pe_call (okMeasure T) (hr.mono (by decide)) (by rfl) T.G_measure T.F_measure.kp T.B_measure .nil pass0 (pa_cons (pv 8) pa_nil)))
      (pss_one (ps_ret (pe_and (pe_cmp (pc_eqI (pv 4) (pv 6))) (pe_and (pe_not (pe_callB (isiQ K) (by rfl) T.m_isinstance (by decide +kernel) (pa_cons (pv 4) (pa_cons (pe_bltn (v := .ty "bool") (by rfl) T.m_bool (by decide +kernel) rfl) pa_nil)))) (pe_and (pe_cmpR (eqDQ K hr.units) (pv 8) (pe_slice (slL K) (pv 3) po_none (po_some (pv 5))) (nomark _)) (pe_one (pe_cmp (pc_eqI (pe_call (okMeasure T) (hr.mono (by decide)) (by rfl) T.G_measure T.F_measure.kp T.B_measure .nil pass0 (pa_cons (pe_callTy (tupQ K) (by rfl) T.m_tuple (by decide +kernel) (pa_cons (pe_slice (slL K) (pv 3) po_none (po_some (pv 5))) pa_nil)) pa_nil)) (pv 6))))))))))))))))))))), ?_⟩
    refine ⟨_, rfl, l, ns, rfl, hS, fun H1 p a s1 d1 => ?_⟩
    -- g
    refine ⟨_, rfl, p, a, 60, _, rfl, d1, by decide, by decide, fun r1 H2 r1a r1b d2 f2 => ⟨_, _, rfl, rfl, _, rfl, _, _, rfl, rfl, pow_ok (by decide), p, a, _, _, rfl, d2, by decide, by decide, fun r2 H3 r2a r2b d3 f3 => ⟨_, _, rfl, rfl, by show 3 ≤ sizeLine; decide, fun o no => ⟨_, rfl, p, a, 3, _, rfl, d3.new no, by decide, by decide, fun r3 H4 r3a r3b d4 f4 => ?_⟩⟩⟩⟩
    have ho : H4 o = some (.lst [.int 1, .int (1 + r1), .int (1 + r2)]) := by
      rw [f4 o (d3.ne no).1]
      exact upd_same
    obtain ⟨v, hv, ev⟩ := at_mem (xs := [V.int 1, V.int (1 + r1), V.int (1 + r2)]) r3a r3b
    obtain ⟨g, rfl, g0, gb⟩ : ∃ g : Int, v = .int g ∧ 0 ≤ g ∧ g ≤ 1000000000 := by
      have r2c : r2 < 1000000000 := r2b
      simp only [List.mem_cons, List.not_mem_nil, or_false] at hv
      rcases hv with e | e | e
      · exact ⟨_, e, by omega, by omega⟩
      · exact ⟨_, e, by omega, by omega⟩
      · exact ⟨_, e, by omega, by omega⟩
    refine ⟨_, _, _, _, rfl, rfl, SqL.of ho, ev, ?_⟩
    clear hv ev ho f4 f3 f2 d1 d2 d3
    -- row
    refine ⟨5, rfl, by decide, by decide, fun D nD => ?_⟩
    have Dp := (d4.ne nD).1
    have Da := (d4.ne nD).2
    refine lc_range (lo := 0) (n := 5) (fun i H => ∃ xs : List Int, H D = some (.lst (xs.map V.int)) ∧ xs.length = i ∧ (∀ x ∈ xs, x.natAbs < 2 ^ 100) ∧ Dw H p a (20 + 9 * i))
      ⟨[], upd_same, rfl, (fun x h => nomatch h), (d4.new nD).mono (by decide)⟩ (fun i H5 hi ⟨xs, h1, h2, h3, h4⟩ => ?_) (fun H5 ⟨xs, h1, h2, h3, h4⟩ => ?_)
    · refine ⟨rfl, ?_⟩
      dsimp only [tYes]
      rw [if_pos rfl]
      refine ⟨_, rfl, p, a, 30, _, rfl, h4, by omega, by decide, fun s1 H6 s1a s1b d6 f6 => ⟨_, rfl, _, _, rfl, rfl, pow_ok (by decide), p, a, _, _, rfl, d6, by omega, by decide, fun s2 H7 s2a s2b d7 f7 => ⟨by show 3 ≤ sizeLine; decide, fun o no => ⟨_, rfl, p, a, 3, _, rfl, d7.new no, by omega, by decide, fun s3 H8 s3a s3b d8 f8 => ?_⟩⟩⟩⟩
      have D7 : H7 D = some (.lst (xs.map V.int)) := by
        rw [f7 D Dp, f6 D Dp]
        exact h1
      have D8 : H8 D = some (.lst (xs.map V.int)) := by
        rw [f8 D Dp]
        exact same_upd no _ _ D7
      have ho : H8 o = some (.lst [.int s1, .int s2, .int 0]) := by
        rw [f8 o (d7.ne no).1]
        exact upd_same
      obtain ⟨v, hv, ev⟩ := at_mem (xs := [V.int s1, V.int s2, V.int 0]) s3a s3b
      obtain ⟨x, rfl, x0, xb⟩ : ∃ x : Int, v = .int x ∧ 0 ≤ x ∧ x < 1000000000 := by
        have s2c : s2 < 1000000000 := s2b
        simp only [List.mem_cons, List.not_mem_nil, or_false] at hv
        rcases hv with e | e | e
        · exact ⟨_, e, by omega, by omega⟩
        · exact ⟨_, e, by omega, by omega⟩
        · exact ⟨_, e, by omega, by omega⟩
      refine ⟨_, _, _, _, rfl, rfl, SqL.of ho, ev, _, rfl, _, _, rfl, rfl, .inl ⟨by omega, by omega⟩, _, rfl, by show 2 ≤ sizeLine; decide, fun o2 no2 => ⟨_, rfl, p, a, 2, _, rfl, d8.new no2, by omega, by decide, fun s4 H9 s4a s4b d9 f9 => ?_⟩⟩
      have D9 : H9 D = some (.lst (xs.map V.int)) := by
        rw [f9 D Dp]
        exact same_upd no2 _ _ D8
      have ho2 : H9 o2 = some (.lst [.int 1, .int (-1)]) := by
        rw [f9 o2 (d8.ne no2).1]
        exact upd_same
      obtain ⟨v2, hv2, ev2⟩ := at_mem (xs := [V.int 1, V.int (-1)]) s4a s4b
      obtain ⟨y, rfl, hy⟩ : ∃ y : Int, v2 = .int y ∧ (y = 1 ∨ y = -1) := by
        simp only [List.mem_cons, List.not_mem_nil, or_false] at hv2
        rcases hv2 with e | e
        · exact ⟨_, e, .inl rfl⟩
        · exact ⟨_, e, .inr rfl⟩
      refine ⟨_, _, _, _, rfl, rfl, SqL.of ho2, ev2, _, _, rfl, rfl, .inr ⟨by omega, by omega⟩, _, D9, ?_, xs ++ [x * g * y], ?_, ?_, ?_, ?_⟩
      · rw [List.length_map]
        exact small1000 (by omega)
      · rw [upd_same, List.map_append]
        rfl
      · rw [List.length_append, h2]
        rfl
      · intro z hz
        rcases List.mem_append.mp hz with hz | hz
        · exact h3 z hz
        · rw [List.mem_singleton.mp hz, Int.natAbs_mul]
          have e1 : y.natAbs = 1 := by omega
          rw [e1, Nat.mul_one]
          have e2 : x.natAbs < 2 ^ 50 := by
            show x.natAbs < 1125899906842624
            omega
          have e3 : g.natAbs < 2 ^ 50 := by
            show g.natAbs < 1125899906842624
            omega
          exact wide_lt e2 e3
      · exact (d9.mut Dp Da).mono (by omega)
    -- the great row
    refine ⟨fun σ H => ∃ (x y z1 z2 z3 : Int) (r : Addr), σ = [some (.ref l), some (.ref p), some (.int g), some (.ref r), none, none, none, none, none, none] ∧ H r = some (.lst [.int x, .int y, .int z1, .int z2, .int z3]) ∧ r ≠ p ∧ x.natAbs < 2 ^ 9400 ∧ y.natAbs < 2 ^ 8990 ∧ z1.natAbs < 2 ^ 9400 ∧ z2.natAbs < 2 ^ 9400 ∧ z3.natAbs < 2 ^ 9400 ∧ Dw H p a 3000, ?_, ?_⟩
    · obtain ⟨x, y, z1, z2, z3, rfl⟩ : ∃ x y z1 z2 z3, xs = [x, y, z1, z2, z3] := by
        match xs, h2 with
        | [x, y, z1, z2, z3], _ => exact ⟨x, y, z1, z2, z3, rfl⟩
      have bx := h3 x (by simp)
      have by' := h3 y (by simp)
      have bz1 := h3 z1 (by simp)
      have bz2 := h3 z2 (by simp)
      have bz3 := h3 z3 (by simp)
      refine ⟨_, rfl, p, a, 8, _, rfl, h4, by decide, by decide, fun r4 H6 r4a r4b d6 f6 => ⟨_, _, rfl, rfl, _, rfl, way2 (fun e => ?_) (fun e => ?_)⟩⟩
      · refine ⟨_, rfl, p, a, _, rfl, d6, by decide, fun q1 H7 u w ub wb d7 f7 nq hq => ?_⟩
        have D7 : H7 D = some (.lst ([x, y, z1, z2, z3].map V.int)) := by
          refine f7 D _ Dp ?_
          rw [f6 D Dp]
          exact h1
        refine ⟨_, rfl, _, rfl, D, _, rfl, SqL.of D7, fun o no => ?_⟩
        have e2 : cutV ([x, y, z1, z2, z3].map V.int) (some 2) none = [.int z1, .int z2, .int z3] := cut_from _ 2
        rw [e2]
        refine ⟨q1, o, _, _, rfl, rfl, same_upd no _ _ hq, upd_same, by show 5 ≤ sizeLine; decide, fun c nc => ?_⟩
        refine ⟨u, w, z1, z2, z3, c, rfl, upd_same, (((d7.new no).ne nc).1), ub, wb, pow_up bz1 (by decide), pow_up bz2 (by decide), pow_up bz3 (by decide), ((d7.new no).new nc).mono (by decide)⟩
      · refine ⟨x, y, z1, z2, z3, D, rfl, ?_, Dp, pow_up bx (by decide), pow_up by' (by decide), pow_up bz1 (by decide), pow_up bz2 (by decide), pow_up bz3 (by decide), d6.mono (by decide)⟩
        rw [f6 D Dp]
        exact h1
    · rintro σ H6 ⟨x, y, z1, z2, z3, r, rfl, hr, rp, bx, by', bz1, bz2, bz3, d6⟩
      have hR : SqL K H6 r [.int x, .int y, .int z1, .int z2, .int z3] := SqL.of hr
      have by2 : y.natAbs < 2 ^ 9400 := pow_up by' (by decide)
      -- told
      refine ⟨_, rfl, _, _, _, _, rfl, rfl, hR, atI_nat (j := 0) rfl, _, rfl, _, _, _, _, rfl, rfl, hR, atI_nat (j := 1) rfl, x, y, rfl, bx, by', fun t u v nt huv bu bv => ?_⟩
      have ht : (upd H6 t (.tup [.int (gI x y), .int u, .int v])) t = some (.tup [.int (gI x y), .int u, .int v]) := upd_same
      have sm : Same H6 (upd H6 t (.tup [.int (gI x y), .int u, .int v])) := same_upd nt
      have hT : SqT K (upd H6 t (.tup [.int (gI x y), .int u, .int v])) t [.int (gI x y), .int u, .int v] := SqT.of ht
      have hR2 := sm.seq hR
      have hr2 := sm _ _ hr
      have d7 := d6.same sm
      generalize upd H6 t (.tup [.int (gI x y), .int u, .int v]) = H7 at ht hT hR2 hr2 d7 ⊢
      refine ⟨_, rfl, _, _, _, _, true, rfl, ClsV.ty _, TyX.base (.tup ht), kit_ty (by decide +kernel), _, rfl, iteF ?_⟩
      refine ⟨_, rfl, _, _, rfl, .inr hT, _, _, rfl, rfl, _, rfl, iteF ?_⟩
      refine ⟨_, rfl, _, _, _, _, rfl, rfl, hT, atI_nat (j := 0) rfl, _, rfl, _, _, _, _, rfl, rfl, hR2, atI_nat (j := 0) rfl, _, rfl, _, _, _, _, rfl, rfl, hR2, atI_nat (j := 1) rfl, x, y, rfl, bx, by2, _, _, rfl, rfl, _, rfl, wayNF rfl ?_⟩
      -- the sum of products
      refine ⟨_, rfl, _, _, _, _, rfl, rfl, hT, atI_nat (j := 1) rfl, _, rfl, _, _, _, _, rfl, rfl, hR2, atI_nat (j := 0) rfl, _, _, rfl, rfl, wide_mul bu bx (by decide) (by decide) (by decide), ?_⟩
      refine ⟨_, rfl, _, _, _, _, rfl, rfl, hT, atI_nat (j := 2) rfl, _, rfl, _, _, _, _, rfl, rfl, hR2, atI_nat (j := 1) rfl, _, _, rfl, rfl, wide_mul bv by2 (by decide) (by decide) (by decide), _, _, rfl, rfl, _, rfl, _, _, _, _, rfl, rfl, hT, atI_nat (j := 0) rfl, _, _, rfl, rfl, _, rfl, wayNF huv ?_⟩
      -- many
      refine ⟨_, rfl, p, a, 6, _, rfl, d7, by decide, by decide, fun m H8 ma mb d8 f8 => ?_⟩
      obtain ⟨k, rfl⟩ := Int.eq_ofNat_of_zero_le ma
      have hr8 : H8 r = some (.lst ([x, y, z1, z2, z3].map V.int)) := by
        rw [f8 r rp]
        exact hr2
      have hR8 : SqL K H8 r ([x, y, z1, z2, z3].map V.int) := SqL.of hr8
      have small : ∀ n ∈ [x, y, z1, z2, z3], n.natAbs < 2 ^ 9400 := by
        intro n hn
        simp only [List.mem_cons, List.not_mem_nil, or_false] at hn
        rcases hn with rfl | rfl | rfl | rfl | rfl
        · exact bx
        · exact by2
        · exact bz1
        · exact bz2
        · exact bz3
      clear hR2 hr2 hT ht sm hR hr d7
      generalize [x, y, z1, z2, z3] = rs at hr8 hR8 small
      -- due
      refine ⟨_, rfl, _, rfl, _, rfl, r, _, rfl, hR8, fun c nc => ?_⟩
      rw [cut_to]
      have sc : Same H8 (upd H8 c (.lst ((rs.take k).map V.int))) := same_upd nc
      have hc : (upd H8 c (.lst ((rs.take k).map V.int))) c = some (.lst ((rs.take k).map V.int)) := upd_same
      have hR9 := sc.seq hR8
      generalize upd H8 c (.lst ((rs.take k).map V.int)) = H9 at sc hc hR9 ⊢
      have hC : SqL K H9 c ((rs.take k).map V.int) := SqL.of hc
      have smk : ∀ n ∈ rs.take k, n.natAbs < 2 ^ 9400 := fun n hn => small n (List.mem_of_mem_take hn)
      generalize hks : rs.take k = ks at hC smk
      have gsm : ∀ i, (gL (ks.take i)).natAbs < 2 ^ 9400 := by
        intro i
        induction i with
        | zero => exact Nat.two_pow_pos 9400
        | succ i ih =>
          cases hn : ks[i]? with
          | none =>
            have h : ks.length ≤ i := List.getElem?_eq_none_iff.mp hn
            rw [List.take_of_length_le h] at ih
            rw [List.take_of_length_le (by omega)]
            exact ih
          | some n =>
            rw [gL_take hn]
            exact gI_lt ih (smk n (List.mem_of_getElem? hn))
      refine ⟨c, rfl, ⟨_, hC⟩, for_list (K := K) (a := c) (xs := ks.map V.int) (fun i σ H => ∃ x7, σ = [some (.ref l), some (.ref p), some (.int g), some (.ref r), some (.ref t), some (.int (k : Int)), some (.int (gL (ks.take i))), x7, none, none] ∧ H = H9) ⟨_, rfl, rfl⟩ (fun i σ H hi ⟨x7, e1, e2⟩ => by rw [e2]; exact hC) (fun i n σ H hx ⟨x7, e1, e2⟩ => ?_) (fun σ H ⟨x7, e1, e2⟩ => ?_)⟩
      · subst e1 e2
        rw [List.getElem?_map] at hx
        cases hn : ks[i]? with
        | none =>
          rw [hn] at hx
          cases hx
        | some n' =>
          rw [hn] at hx
          cases hx
          refine ⟨_, rfl, _, rfl, _, _, rfl, gsm i, smk n' (List.mem_of_getElem? hn), some (.int n'), ?_, rfl⟩
          rw [gL_take hn]
          rfl
      · subst e1 e2
        rw [List.length_map, List.take_length]
        -- passed, told
        refine ⟨_, rfl, _, rfl, _, rfl, r, _, rfl, hR9, fun c2 nc2 => ?_⟩
        rw [cut_to, hks]
        have sc2 : Same H (upd H c2 (.lst (ks.map V.int))) := same_upd nc2
        have hc2 : (upd H c2 (.lst (ks.map V.int))) c2 = some (.lst (ks.map V.int)) := upd_same
        have hR10 := sc2.seq hR9
        generalize upd H c2 (.lst (ks.map V.int)) = H10 at hc2 hR10 ⊢
        refine ⟨_, rfl, c2, ks, rfl, .inl (SqL.of hc2), ?_⟩
        -- the last row
        refine ⟨_, rfl, _, rfl, _, _, rfl, rfl, _, rfl, wayT rfl ?_⟩
        refine ⟨_, rfl, _, _, _, _, false, rfl, ClsV.ty _, TyX.base (.int _), kit_ty (by decide +kernel), _, rfl, _, rfl, iteT ?_⟩
        refine ⟨_, rfl, _, rfl, _, rfl, _, rfl, r, _, rfl, hR10, fun c3 nc3 => ?_⟩
        rw [cut_to, hks]
        have sc3 : Same H10 (upd H10 c3 (.lst (ks.map V.int))) := same_upd nc3
        refine eqD_same (.lst (SqL.of (sc3 _ _ hc2)) (dp_ints ks)) (.lst (SqL.of upd_same) (dp_ints ks)) (shaped_ints ks) ⟨_, rfl, iteT ?_⟩
        refine ⟨_, rfl, _, rfl, _, rfl, r, _, rfl, sc3.seq hR10, fun c4 nc4 => ?_⟩
        rw [cut_to, hks]
        refine ⟨c4, _, rfl, .inl ⟨SqL.of upd_same, fun c5 nc5 => ?_⟩⟩
        refine ⟨c5, ks, rfl, .inr (SqT.of upd_same), _, rfl, _, _, rfl, rfl, ?_⟩
        have e : decide (gL ks = gL ks) = true := decide_eq_true rfl
        show Q (.bl (decide (gL ks = gL ks))) _
        rw [e]
        exact q _
end
theorem all_mk {l : PySem.W.OpenLaw} {w : World} {K : PySem.W.Frag} {h : Heap} {mg : Str → Option Value} {f : Addr} (X : K.In h) (G : h.Ns mainGlobals mg) (hfa : mg "law" = some (.ref f))
    {f0 f1 f2 f3 f4 f5 f6 f7 f8 f9 : Addr}
    {od0 an0 od1 an1 od2 an2 od3 an3 od4 an4 od5 an5 od6 an6 od7 an7 od8 an8 od9 an9 : Option Addr} {sl0 sl1 sl2 sl3 sl4 sl5 sl6 sl7 sl8 sl9 : Array (Option Value)}
    {oc0 kV0 dc0 pm0 cd0 ct0 oc1 kV1 dc1 pm1 cd1 ct1 oc2 kV2 dc2 pm2 cd2 ct2 oc3 kV3 dc3 pm3 cd3 ct3 oc4 kV4 dc4 pm4 cd4 ct4 oc5 kV5 dc5 pm5 cd5 ct5 oc6 kV6 dc6 pm6 cd6 ct6 oc7 kV7 dc7 pm7 cd7 ct7 oc8 kV8 dc8 pm8 cd8 ct8 oc9 kV9 dc9 pm9 cd9 ct9 : Value}
    (a0 : PySem.W.nsIn K mainGlobals "bezout" = some (some (.ref f0))) (l0 : K.lookup f0 = some ⟨oc0, od0, .func (PySem.W.fnOf "bezout" "bezout" (defArgs sBezout) (defBody sBezout) (defScope sBezout) .none kV0 dc0 pm0 an0 cd0 ct0), sl0⟩) (c0 : PySem.W.codeIn K cd0 "bezout" = true) (k0 : PySem.W.keepIn K (.ref f0) = true)
    (a1 : PySem.W.nsIn K mainGlobals "measure" = some (some (.ref f1))) (l1 : K.lookup f1 = some ⟨oc1, od1, .func (PySem.W.fnOf "measure" "measure" (defArgs sMeasure) (defBody sMeasure) (defScope sMeasure) .none kV1 dc1 pm1 an1 cd1 ct1), sl1⟩) (c1 : PySem.W.codeIn K cd1 "measure" = true) (k1 : PySem.W.keepIn K (.ref f1) = true)
    (a2 : PySem.W.nsIn K mainGlobals "_law_cell" = some (some (.ref f2))) (l2 : K.lookup f2 = some ⟨oc2, od2, .func (PySem.W.fnOf "_law_cell" "_law_cell" (defArgs sLawCell) (defBody sLawCell) (defScope sLawCell) .none kV2 dc2 pm2 an2 cd2 ct2), sl2⟩) (c2 : PySem.W.codeIn K cd2 "_law_cell" = true) (k2 : PySem.W.keepIn K (.ref f2) = true)
    (a3 : PySem.W.nsIn K mainGlobals "_law_numbers" = some (some (.ref f3))) (l3 : K.lookup f3 = some ⟨oc3, od3, .func (PySem.W.fnOf "_law_numbers" "_law_numbers" (defArgs sLawNumbers) (defBody sLawNumbers) (defScope sLawNumbers) .none kV3 dc3 pm3 an3 cd3 ct3), sl3⟩) (c3 : PySem.W.codeIn K cd3 "_law_numbers" = true) (k3 : PySem.W.keepIn K (.ref f3) = true)
    (a4 : PySem.W.nsIn K mainGlobals "_law_state" = some (some (.ref f4))) (l4 : K.lookup f4 = some ⟨oc4, od4, .func (PySem.W.fnOf "_law_state" "_law_state" (defArgs sLawState) (defBody sLawState) (defScope sLawState) .none kV4 dc4 pm4 an4 cd4 ct4), sl4⟩) (c4 : PySem.W.codeIn K cd4 "_law_state" = true) (k4 : PySem.W.keepIn K (.ref f4) = true)
    (a5 : PySem.W.nsIn K mainGlobals "_law_next" = some (some (.ref f5))) (l5 : K.lookup f5 = some ⟨oc5, od5, .func (PySem.W.fnOf "_law_next" "_law_next" (defArgs sLawNext) (defBody sLawNext) (defScope sLawNext) .none kV5 dc5 pm5 an5 cd5 ct5), sl5⟩) (c5 : PySem.W.codeIn K cd5 "_law_next" = true) (k5 : PySem.W.keepIn K (.ref f5) = true)
    (a6 : PySem.W.nsIn K mainGlobals "_law_wide" = some (some (.ref f6))) (l6 : K.lookup f6 = some ⟨oc6, od6, .func (PySem.W.fnOf "_law_wide" "_law_wide" (defArgs sLawWide) (defBody sLawWide) (defScope sLawWide) .none kV6 dc6 pm6 an6 cd6 ct6), sl6⟩) (c6 : PySem.W.codeIn K cd6 "_law_wide" = true) (k6 : PySem.W.keepIn K (.ref f6) = true)
    (a7 : PySem.W.nsIn K mainGlobals "_law_measure" = some (some (.ref f7))) (l7 : K.lookup f7 = some ⟨oc7, od7, .func (PySem.W.fnOf "_law_measure" "_law_measure" (defArgs sLawMeasure) (defBody sLawMeasure) (defScope sLawMeasure) .none kV7 dc7 pm7 an7 cd7 ct7), sl7⟩) (c7 : PySem.W.codeIn K cd7 "_law_measure" = true) (k7 : PySem.W.keepIn K (.ref f7) = true)
    (a8 : PySem.W.nsIn K mainGlobals "_law_great" = some (some (.ref f8))) (l8 : K.lookup f8 = some ⟨oc8, od8, .func (PySem.W.fnOf "_law_great" "_law_great" (defArgs sLawGreat) (defBody sLawGreat) (defScope sLawGreat) .none kV8 dc8 pm8 an8 cd8 ct8), sl8⟩) (c8 : PySem.W.codeIn K cd8 "_law_great" = true) (k8 : PySem.W.keepIn K (.ref f8) = true)
    (a9 : PySem.W.nsIn K mainGlobals "law" = some (some (.ref f9))) (l9 : K.lookup f9 = some ⟨oc9, od9, .func (PySem.W.fnOf "law" "law" (defArgs sLaw) (defBody sLaw) (defScope sLaw) .none kV9 dc9 pm9 an9 cd9 ct9), sl9⟩) (c9 : PySem.W.codeIn K cd9 "law" = true) (k9 : PySem.W.keepIn K (.ref f9) = true)
    (z0 : PySem.W.nsIn K mainGlobals "abs" = some none)
    (z1 : PySem.W.nsIn K mainGlobals "bool" = some none)
    (z2 : PySem.W.nsIn K mainGlobals "int" = some none)
    (z3 : PySem.W.nsIn K mainGlobals "isinstance" = some none)
    (z4 : PySem.W.nsIn K mainGlobals "len" = some none)
    (z5 : PySem.W.nsIn K mainGlobals "range" = some none)
    (z6 : PySem.W.nsIn K mainGlobals "tuple" = some none)
    (i0 : PySem.W.nsIn K mainGlobals "gcd" = some (some (.builtin "math.gcd")))
    : ∃ fd : FuncData, (∀ (s : Shared) (v : Value), BindsTo s fd ⟨[v], []⟩ [("script", v)]) ∧ ∀ base : Heap, K.In base → base.Ns mainGlobals mg → FnOk l.prog w K mg base CX0 4 f fd ["script"] (spLaw K) := by
  have e := hfa.symm.trans (PySem.W.mg_of X G a9)
  cases e
  have F0 := fun_mk (st := sBezout) l0 c0 k0
  have F1 := fun_mk (st := sMeasure) l1 c1 k1
  have F2 := fun_mk (st := sLawCell) l2 c2 k2
  have F3 := fun_mk (st := sLawNumbers) l3 c3 k3
  have F4 := fun_mk (st := sLawState) l4 c4 k4
  have F5 := fun_mk (st := sLawNext) l5 c5 k5
  have F6 := fun_mk (st := sLawWide) l6 c6 k6
  have F7 := fun_mk (st := sLawMeasure) l7 c7 k7
  have F8 := fun_mk (st := sLawGreat) l8 c8 k8
  have F9 := fun_mk (st := sLaw) l9 c9 k9
  have b0 := F0.binds (ps := ["a", "b"]) fun _ _ _ _ _ _ us hl => match us, hl with | [_, _], _ => rfl
  have b1 := F1.binds (ps := ["numbers"]) fun _ _ _ _ _ _ us hl => match us, hl with | [_], _ => rfl
  have b2 := F2.binds (ps := ["script", "k"]) fun _ _ _ _ _ _ us hl => match us, hl with | [_, _], _ => rfl
  have b3 := F3.binds (ps := ["cell", "many"]) fun _ _ _ _ _ _ us hl => match us, hl with | [_, _], _ => rfl
  have b4 := F4.binds (ps := ["script"]) fun _ _ _ _ _ _ us hl => match us, hl with | [_], _ => rfl
  have b5 := F5.binds (ps := ["state", "many"]) fun _ _ _ _ _ _ us hl => match us, hl with | [_, _], _ => rfl
  have b6 := F6.binds (ps := ["state", "many"]) fun _ _ _ _ _ _ us hl => match us, hl with | [_, _], _ => rfl
  have b7 := F7.binds (ps := ["a", "b"]) fun _ _ _ _ _ _ us hl => match us, hl with | [_, _], _ => rfl
  have b8 := F8.binds (ps := ["state"]) fun _ _ _ _ _ _ us hl => match us, hl with | [_], _ => rfl
  have b9 := F9.binds (ps := ["script"]) fun _ _ _ _ _ _ us hl => match us, hl with | [_], _ => rfl
  let fa : Nat → Addr := fun i => [f0, f1, f2, f3, f4, f5, f6, f7, f8, f].getD i 0
  let fd : Nat → FuncData := fun i => match i with
    | 0 => PySem.W.fnOf "bezout" "bezout" (defArgs sBezout) (defBody sBezout) (defScope sBezout) .none kV0 dc0 pm0 an0 cd0 ct0
    | 1 => PySem.W.fnOf "measure" "measure" (defArgs sMeasure) (defBody sMeasure) (defScope sMeasure) .none kV1 dc1 pm1 an1 cd1 ct1
    | 2 => PySem.W.fnOf "_law_cell" "_law_cell" (defArgs sLawCell) (defBody sLawCell) (defScope sLawCell) .none kV2 dc2 pm2 an2 cd2 ct2
    | 3 => PySem.W.fnOf "_law_numbers" "_law_numbers" (defArgs sLawNumbers) (defBody sLawNumbers) (defScope sLawNumbers) .none kV3 dc3 pm3 an3 cd3 ct3
    | 4 => PySem.W.fnOf "_law_state" "_law_state" (defArgs sLawState) (defBody sLawState) (defScope sLawState) .none kV4 dc4 pm4 an4 cd4 ct4
    | 5 => PySem.W.fnOf "_law_next" "_law_next" (defArgs sLawNext) (defBody sLawNext) (defScope sLawNext) .none kV5 dc5 pm5 an5 cd5 ct5
    | 6 => PySem.W.fnOf "_law_wide" "_law_wide" (defArgs sLawWide) (defBody sLawWide) (defScope sLawWide) .none kV6 dc6 pm6 an6 cd6 ct6
    | 7 => PySem.W.fnOf "_law_measure" "_law_measure" (defArgs sLawMeasure) (defBody sLawMeasure) (defScope sLawMeasure) .none kV7 dc7 pm7 an7 cd7 ct7
    | 8 => PySem.W.fnOf "_law_great" "_law_great" (defArgs sLawGreat) (defBody sLawGreat) (defScope sLawGreat) .none kV8 dc8 pm8 an8 cd8 ct8
    | _ => PySem.W.fnOf "law" "law" (defArgs sLaw) (defBody sLaw) (defScope sLaw) .none kV9 dc9 pm9 an9 cd9 ct9
  have T : Txt K mg fa fd := {
    F_bezout := F0, B_bezout := b0, G_bezout := PySem.W.mg_of X G a0,
    F_measure := F1, B_measure := b1, G_measure := PySem.W.mg_of X G a1,
    F__law_cell := F2, B__law_cell := b2, G__law_cell := PySem.W.mg_of X G a2,
    F__law_numbers := F3, B__law_numbers := b3, G__law_numbers := PySem.W.mg_of X G a3,
    F__law_state := F4, B__law_state := b4, G__law_state := PySem.W.mg_of X G a4,
    F__law_next := F5, B__law_next := b5, G__law_next := PySem.W.mg_of X G a5,
    F__law_wide := F6, B__law_wide := b6, G__law_wide := PySem.W.mg_of X G a6,
    F__law_measure := F7, B__law_measure := b7, G__law_measure := PySem.W.mg_of X G a7,
    F__law_great := F8, B__law_great := b8, G__law_great := PySem.W.mg_of X G a8,
    F_law := F9, B_law := b9, G_law := PySem.W.mg_of X G a9,
    m_abs := PySem.W.mg_none_of X G z0, m_bool := PySem.W.mg_none_of X G z1, m_int := PySem.W.mg_none_of X G z2, m_isinstance := PySem.W.mg_none_of X G z3, m_len := PySem.W.mg_none_of X G z4, m_range := PySem.W.mg_none_of X G z5, m_tuple := PySem.W.mg_none_of X G z6, g_gcd := PySem.W.mg_of X G i0 }
  exact ⟨fd 9, fun s v => .of_eq rfl, fun base _ _ => okLaw T⟩
end Wc
open PySem PySem.W PyProof.Rows
set_option maxHeartbeats 0 in
theorem PySem.Challenge.cw_wholeconic_k00_common_measures_holds : PySem.Challenge.rw_wholeconic_k00_common_measures.Holds := by
  w_on; o_law; k_head; (case hw => w_witness2)
  k_fill
  refine L2.walk_of (l := PySem.Challenge.rw_wholeconic_k00_common_measures) (n := 63) (k := 4) (x := "script") (CX := fun _ => L2.CX0) (sp := fun w => Wc.spLaw _) rfl (by decide) rfl ⟨rfl, by decide, by decide⟩ (fun w h Y => PySem.W.kIn_of Y) ?F (fun _ _ a ns hl _ hS => ⟨a, ns, rfl, hS, hl, fun _ => rfl⟩) (fun _ _ _ _ _ h => h)
  case F =>
    intro w mg fa h KX G hmg
    refine' Wc.all_mk KX G hmg ?a0 ?l0 ?c0 ?k0 ?a1 ?l1 ?c1 ?k1 ?a2 ?l2 ?c2 ?k2 ?a3 ?l3 ?c3 ?k3 ?a4 ?l4 ?c4 ?k4 ?a5 ?l5 ?c5 ?k5 ?a6 ?l6 ?c6 ?k6 ?a7 ?l7 ?c7 ?k7 ?a8 ?l8 ?c8 ?k8 ?a9 ?l9 ?c9 ?k9 ?z0 ?z1 ?z2 ?z3 ?z4 ?z5 ?z6 ?i0
    (case a0 => k_is); (case l0 => k_is); (case c0 => k_is); (case k0 => k_is); (case a1 => k_is); (case l1 => k_is); (case c1 => k_is); (case k1 => k_is); (case a2 => k_is); (case l2 => k_is); (case c2 => k_is); (case k2 => k_is); (case a3 => k_is); (case l3 => k_is); (case c3 => k_is); (case k3 => k_is); (case a4 => k_is); (case l4 => k_is); (case c4 => k_is); (case k4 => k_is); (case a5 => k_is); (case l5 => k_is); (case c5 => k_is); (case k5 => k_is); (case a6 => k_is); (case l6 => k_is); (case c6 => k_is); (case k6 => k_is); (case a7 => k_is); (case l7 => k_is); (case c7 => k_is); (case k7 => k_is); (case a8 => k_is); (case l8 => k_is); (case c8 => k_is); (case k8 => k_is); (case a9 => k_is); (case l9 => k_is); (case c9 => k_is); (case k9 => k_is); (case z0 => k_is); (case z1 => k_is); (case z2 => k_is); (case z3 => k_is); (case z4 => k_is); (case z5 => k_is); (case z6 => k_is); (case i0 => k_is)
