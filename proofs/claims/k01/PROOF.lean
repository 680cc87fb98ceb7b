import PyProof.Rows.All
import Wide.All
import OpenK.AllK
import Wide.FinOn
import HandS.ForMost
import HandS.Wide
import HandS.Gcd
import HandS.Style
import HandS.IsInst
import HandS.Codes
import Flt.RightSqrt
import PySem.Challenge.RW_wholeconic_k01_whole_roots
set_option Elab.async false
set_option linter.all false
set_option maxRecDepth 100000
set_option maxHeartbeats 4000000
namespace Wc
open PySem PySem.Spec PyProof.Rows L2
/-! ### the text -/
def topS (i : Nat) : Stmt := PySem.Challenge.pw_wholeconic_k01_whole_roots.main.body.getD i (.Pass ⟨0, 0, 0, 0⟩)
abbrev sFloorRoot : Stmt := topS 2
theorem scFloorRoot : FnScope ["n"] ["n"] (defScope sFloorRoot) := ⟨rfl, rfl, rfl, by decide +kernel, rfl, by decide +kernel, by decide +kernel⟩
abbrev sIsSquare : Stmt := topS 3
theorem scIsSquare : FnScope ["n", "root"] ["n"] (defScope sIsSquare) := ⟨rfl, rfl, rfl, by decide +kernel, rfl, by decide +kernel, by decide +kernel⟩
abbrev sLawCell : Stmt := topS 5
theorem scLawCell : FnScope ["script", "k"] ["script", "k"] (defScope sLawCell) := ⟨rfl, rfl, rfl, by decide +kernel, rfl, by decide +kernel, by decide +kernel⟩
abbrev sLawNumbers : Stmt := topS 6
theorem scLawNumbers : FnScope ["cell", "many", "rest", "span", "numbers", "k", "mixed"] ["cell", "many"] (defScope sLawNumbers) := ⟨rfl, rfl, rfl, by decide +kernel, rfl, by decide +kernel, by decide +kernel⟩
abbrev sLawState : Stmt := topS 7
theorem scLawState : FnScope ["script", "numbers", "k"] ["script"] (defScope sLawState) := ⟨rfl, rfl, rfl, by decide +kernel, rfl, by decide +kernel, by decide +kernel⟩
abbrev sLawNext : Stmt := topS 8
theorem scLawNext : FnScope ["state", "many", "number"] ["state", "many"] (defScope sLawNext) := ⟨rfl, rfl, rfl, by decide +kernel, rfl, by decide +kernel, by decide +kernel⟩
abbrev sLawWide : Stmt := topS 9
theorem scLawWide : FnScope ["state", "many", "total", "k"] ["state", "many"] (defScope sLawWide) := ⟨rfl, rfl, rfl, by decide +kernel, rfl, by decide +kernel, by decide +kernel⟩
abbrev sLaw : Stmt := topS 10
theorem scLaw : FnScope ["script", "state", "r", "k", "n", "told"] ["script"] (defScope sLaw) := ⟨rfl, rfl, rfl, by decide +kernel, rfl, by decide +kernel, by decide +kernel⟩
structure Txt (K : PySem.W.Frag) (mg : Str → Option Value) (fa : Nat → Addr) (fd : Nat → FuncData) : Prop where
  F_floor_root : Fun K "floor_root" "floor_root" sFloorRoot (fa 0) (fd 0)
  B_floor_root : Binds K (fd 0) ["n"] []
  G_floor_root : mg "floor_root" = some (.ref (fa 0))
  F_is_square : Fun K "is_square" "is_square" sIsSquare (fa 1) (fd 1)
  B_is_square : Binds K (fd 1) ["n"] []
  G_is_square : mg "is_square" = some (.ref (fa 1))
  F__law_cell : Fun K "_law_cell" "_law_cell" sLawCell (fa 2) (fd 2)
  B__law_cell : Binds K (fd 2) ["script", "k"] []
  G__law_cell : mg "_law_cell" = some (.ref (fa 2))
  F__law_numbers : Fun K "_law_numbers" "_law_numbers" sLawNumbers (fa 3) (fd 3)
  B__law_numbers : Binds K (fd 3) ["cell", "many"] []
  G__law_numbers : mg "_law_numbers" = some (.ref (fa 3))
  F__law_state : Fun K "_law_state" "_law_state" sLawState (fa 4) (fd 4)
  B__law_state : Binds K (fd 4) ["script"] []
  G__law_state : mg "_law_state" = some (.ref (fa 4))
  F__law_next : Fun K "_law_next" "_law_next" sLawNext (fa 5) (fd 5)
  B__law_next : Binds K (fd 5) ["state", "many"] []
  G__law_next : mg "_law_next" = some (.ref (fa 5))
  F__law_wide : Fun K "_law_wide" "_law_wide" sLawWide (fa 6) (fd 6)
  B__law_wide : Binds K (fd 6) ["state", "many"] []
  G__law_wide : mg "_law_wide" = some (.ref (fa 6))
  F_law : Fun K "law" "law" sLaw (fa 7) (fd 7)
  B_law : Binds K (fd 7) ["script"] []
  G_law : mg "law" = some (.ref (fa 7))
  m_abs : mg "abs" = none
  m_bool : mg "bool" = none
  m_int : mg "int" = none
  m_isinstance : mg "isinstance" = none
  m_len : mg "len" = none
  m_range : mg "range" = none
  g_isqrt : mg "isqrt" = some (.builtin "math.isqrt")

/-! ### heaps, draws -/
theorem same_upd {H : Hp} {p : Addr} {o : HO} (h : H p = none) : Same H (upd H p o) := fun b x e => by
  rw [upd_ne (ne_of_none e h)]
  exact e
theorem same_mut {H0 H : Hp} {p : Addr} {o : HO} (s : Same H0 H) (h : H0 p = none) : Same H0 (upd H p o) := fun b x e => by
  rw [upd_ne (ne_of_none e h)]
  exact s _ _ e
theorem same_off {H H' : Hp} {p : Addr} {o : HO} {q : Addr} (f : ∀ b, b ≠ p → H' b = H b) (n : q ≠ p) (h : H q = some o) : H' q = some o := by
  rw [f q n]
  exact h
/-- the state of the draws: the list at p, its numbers at a, at most N draws so far -/
def Dw (H : Hp) (p a : Addr) (N : Nat) : Prop := ∃ (m : Nat) (ns : List Int), m ≤ N ∧ a ≠ p ∧ H p = some (.lst [.ref a, .int (m : Int)]) ∧ H a = some (.lst (ns.map V.int)) ∧ ns.length = 120 ∧ ∀ n ∈ ns, 0 ≤ n ∧ n < 1000
theorem Dw.same {H H' : Hp} {p a : Addr} {N : Nat} (s : Same H H') (d : Dw H p a N) : Dw H' p a N := by
  obtain ⟨m, ns, h1, h2, h3, h4, h5⟩ := d
  exact ⟨m, ns, h1, h2, s _ _ h3, s _ _ h4, h5⟩
theorem Dw.mono {H : Hp} {p a : Addr} {N M : Nat} (d : Dw H p a N) (h : N ≤ M) : Dw H p a M := by
  obtain ⟨m, ns, h1, h2⟩ := d
  exact ⟨m, ns, Nat.le_trans h1 h, h2⟩
theorem Dw.new {H : Hp} {p a q : Addr} {o : HO} {N : Nat} (d : Dw H p a N) (h : H q = none) : Dw (upd H q o) p a N := d.same (same_upd h)
theorem Dw.ne {H : Hp} {p a q : Addr} {N : Nat} (d : Dw H p a N) (h : H q = none) : q ≠ p ∧ q ≠ a := by
  obtain ⟨m, ns, h1, h2, h3, h4, h5⟩ := d
  exact ⟨(ne_of_none h3 h).symm, (ne_of_none h4 h).symm⟩
theorem Dw.mut {H : Hp} {p a q : Addr} {o : HO} {N : Nat} (d : Dw H p a N) (hp : q ≠ p) (ha : q ≠ a) : Dw (upd H q o) p a N := by
  obtain ⟨m, ns, h1, h2, h3, h4, h5⟩ := d
  exact ⟨m, ns, h1, h2, by rw [upd_ne hp.symm]; exact h3, by rw [upd_ne ha.symm]; exact h4, h5⟩
theorem at_mem {α : Type} {xs : List α} {r : Int} (h0 : 0 ≤ r) (h1 : r < xs.length) : ∃ v, v ∈ xs ∧ atI xs r = some v := by
  obtain ⟨j, rfl⟩ := Int.eq_ofNat_of_zero_le h0
  have hj : j < xs.length := by omega
  exact ⟨xs[j], List.getElem_mem hj, atI_nat (List.getElem?_eq_getElem hj)⟩
theorem at_int {ns : List Int} {r : Int} (h0 : 0 ≤ r) (h1 : r < ns.length) : ∃ n ∈ ns, atI (ns.map V.int) r = some (.int n) := by
  obtain ⟨v, hv, e⟩ := at_mem (xs := ns.map V.int) h0 (by rw [List.length_map]; exact h1)
  obtain ⟨n, hn, rfl⟩ := List.mem_map.mp hv
  exact ⟨n, hn, e⟩
theorem pow_ok {i j : Int} (h : 0 ≤ j ∧ j ≤ 1000000 ∧ i.natAbs < 2 ^ 64) : CPow i j := h
theorem wayF {c A B : Prop} [Decidable c] (h : ¬ c) (b : B) : if decide c = true then A else B := by
  rw [if_neg (fun z => h (of_decide_eq_true z))]
  exact b
theorem wayT {c A B : Prop} [Decidable c] (h : c) (a : A) : if decide c = true then A else B := by
  rw [if_pos (decide_eq_true h)]
  exact a
theorem wayNF {c A B : Prop} [Decidable c] (h : c) (b : B) : if (!decide c) = true then A else B := by
  rw [decide_eq_true h]
  exact iteF b
theorem wayNT {c A B : Prop} [Decidable c] (h : ¬ c) (a : A) : if (!decide c) = true then A else B := by
  rw [decide_eq_false h]
  exact iteT a
theorem way2 {c A B : Prop} [Decidable c] (h1 : c → A) (h2 : ¬ c → B) : if decide c = true then A else B := by
  by_cases h : c
  · exact wayT h (h1 h)
  · exact wayF h (h2 h)
theorem wayN2 {c A B : Prop} [Decidable c] (h1 : ¬ c → A) (h2 : c → B) : if (!decide c) = true then A else B := by
  by_cases h : c
  · exact wayNF h (h2 h)
  · exact wayNT h (h1 h)
theorem abs_int (i : Int) : (if i < 0 then -i else i) = (i.natAbs : Int) := by
  split <;> omega
theorem small200 {n : Nat} (h : n ≤ 1000) : n ≤ sizeLine := Nat.le_of_lt (small1000 h)

/-! ### whole roots -/
section
variable {X : Cx}
theorem cr_isqrt : CallR X (.builtin "math.isqrt") (fun vs H Q => ∃ i : Int, vs = [.int i] ∧ 0 ≤ i ∧ i.natAbs < 2 ^ 13000 ∧ Q (.int ((Float64.isqrt i.toNat : Nat) : Int)) H) := by
  intro pins s σ H vs us Q I r h
  obtain ⟨i, rfl, h0, h1, q⟩ := h
  obtain ⟨u, rfl, t, rfl⟩ := vals1 r
  have hl : i.toNat.log2 < 13000 := PySem.Flt.log2_lt_of (by decide) (by omega)
  exact call_function_meets PySem.W.MGF.kind_isqrt PySem.W.MGF.plain_isqrt PySem.W.MGF.entry_isqrt (PySem.W.MGF.args_isqrt _) (PySem.W.mg_run_isqrt i t (by omega) (by omega) (by omega)).meets ⟨.int _, H, I.tok _, ⟨_, rfl⟩, q⟩
end
def rootI (n : Int) : Int := ((Float64.isqrt n.toNat : Nat) : Int)
theorem rootI_spec {n : Int} (h : 0 ≤ n) : 0 ≤ rootI n ∧ rootI n * rootI n ≤ n ∧ n < (rootI n + 1) * (rootI n + 1) := by
  obtain ⟨k, rfl⟩ := Int.eq_ofNat_of_zero_le h
  have e := Float64.isqrt_spec k
  unfold rootI
  have e2 : Int.toNat (k : Int) = k := rfl
  rw [e2]
  generalize Float64.isqrt k = m at e ⊢
  refine ⟨Int.natCast_nonneg m, ?_, ?_⟩
  · exact_mod_cast e.1
  · exact_mod_cast e.2
theorem rootI_lt {n : Int} {b : Nat} (h : 0 ≤ n) (hb : n.natAbs < 2 ^ b) : (rootI n).natAbs < 2 ^ b := by
  obtain ⟨h0, h1, h2⟩ := rootI_spec h
  have h3 : rootI n ≤ n := by
    by_cases e : rootI n = 0
    · omega
    · have h4 : 1 * rootI n ≤ rootI n * rootI n := Int.mul_le_mul_of_nonneg_right (by omega) h0
      omega
  omega
section
variable {P : Program} {w : World} {K : PySem.W.Frag} {mg : Str → Option Value} {base : Heap} {fa : Nat → Addr} {fd : Nat → FuncData}
def spFloorRoot (_ : PySem.W.Frag) : Sp := fun vs H Q _ => ∃ n : Int, vs = [.int n] ∧ 0 ≤ n ∧ n.natAbs < 2 ^ 13000 ∧ Q (.int (rootI n)) H
theorem okFloorRoot (T : Txt K mg fa fd) : FnOk P w K mg base CX0 1 (fa 0) (fd 0) ["n"] (spFloorRoot K) := by
  refine T.F_floor_root.ok scFloorRoot (fun vs H Q E h => ?_) (fun cdv A outer s H vs Q E hr h => ?_)
  · obtain ⟨n, rfl, h0, h1, q⟩ := h
    rfl
  · obtain ⟨n, rfl, h0, h1, q⟩ := h
    refine ⟨_, (pss_one (ps_ret (pe_callBfun cr_isqrt (by rfl) T.g_isqrt (pa_cons (pv 0) pa_nil)))), ?_⟩
    exact ⟨_, rfl, _, rfl, h0, h1, q⟩
def spIsSquare (_ : PySem.W.Frag) : Sp := fun vs H Q _ => ∃ n : Int, vs = [.int n] ∧ n.natAbs < 2 ^ 13000 ∧ Q (.bl (decide (0 ≤ n ∧ rootI n * rootI n = n))) H
theorem okIsSquare (T : Txt K mg fa fd) : FnOk P w K mg base CX0 2 (fa 1) (fd 1) ["n"] (spIsSquare K) := by
  refine T.F_is_square.ok scIsSquare (fun vs H Q E h => ?_) (fun cdv A outer s H vs Q E hr h => ?_)
  · obtain ⟨n, rfl, h1, q⟩ := h
    rfl
  · obtain ⟨n, rfl, h1, q⟩ := h
    refine ⟨_, (pss_cons (ps_if (pt_cmp (pc_lt (pv 0) pe_int))
      (pss_one (ps_ret pe_bl))
      pss_nil)
      (pss_cons (ps_set (i := 1) scIsSquare.nd rfl (Or.inl rfl) (pe_call (okFloorRoot T) hr (by rfl) T.G_floor_root T.F_floor_root.kp T.B_floor_root .nil pass0 (pa_cons (pv 0) pa_nil)))
      (pss_one (ps_ret (pe_cmp (pc_eqI (pe_op op_mulW (pv 1) (pv 1)) (pv 0))))))), ?_⟩
    refine ⟨_, rfl, _, _, rfl, rfl, _, rfl, ite2 (fun e => ?_) (fun e => ?_)⟩
    · have e1 : n < 0 := of_decide_eq_true e
      have e2 : decide (0 ≤ n ∧ rootI n * rootI n = n) = false := decide_eq_false fun z => by omega
      rw [e2] at q
      exact q
    · have e1 : ¬ n < 0 := fun z => e (decide_eq_true z)
      have h0 : 0 ≤ n := by omega
      have hr := rootI_lt h0 h1
      refine ⟨_, rfl, n, rfl, h0, h1, _, rfl, _, rfl, _, _, rfl, rfl, wide_mul hr hr (by decide) (by decide) (by decide), _, rfl, _, _, rfl, rfl, ?_⟩
      have e2 : decide (0 ≤ n ∧ rootI n * rootI n = n) = decide (rootI n * rootI n = n) := by
        rw [decide_eq_decide]
        exact ⟨fun z => z.2, fun z => ⟨h0, z⟩⟩
      rw [e2] at q
      exact q
def spLawCell (K : PySem.W.Frag) : Sp := fun vs H Q _ => ∃ (l : Addr) (ns : List Int) (j : Nat), vs = [.ref l, .int (j : Int)] ∧ SqL K H l (ns.map V.int) ∧ ∀ v : Int, Q (.int v) H
theorem okLawCell (T : Txt K mg fa fd) : FnOk P w K mg base CX0 1 (fa 2) (fd 2) ["script", "k"] (spLawCell K) := by
  refine T.F__law_cell.ok scLawCell (fun vs H Q E h => ?_) (fun cdv A outer s H vs Q E hr h => ?_)
  · obtain ⟨l, ns, j, rfl, hS, q⟩ := h
    rfl
  · obtain ⟨l, ns, j, rfl, hS, q⟩ := h
    refine ⟨_, (pss_cons (ps_if (pt_cmp (pc_lt (pv 1) (pe_callB call_len_seq (by rfl) T.m_len (by decide +kernel) (pa_cons (pv 0) pa_nil))))
      (pss_one (ps_ret (pe_ix ix_list (pv 0) (pv 1) (fun _ _ => rfl))))
      pss_nil)
      (pss_one (ps_ret pe_int))), ?_⟩
    refine ⟨_, rfl, _, rfl, _, _, rfl, .inl hS, _, _, rfl, rfl, _, rfl, ite2 (fun e => ?_) (fun e => ?_)⟩
    · have e1 : (j : Int) < ((ns.map V.int).length : Int) := of_decide_eq_true e
      have hj : j < ns.length := by
        rw [List.length_map] at e1
        omega
      exact ⟨_, rfl, _, rfl, _, _, _, _, rfl, rfl, hS, atI_nat (by rw [List.getElem?_map, List.getElem?_eq_getElem hj]; rfl), q _⟩
    · exact q 0
def spLawNumbers (K : PySem.W.Frag) : Sp := fun vs H Q _ => ∃ (c : Int) (m : Nat), vs = [.int c, .int (m : Int)] ∧ m ≤ 100 ∧
  ∀ H' p (ns : List Int), Same H H' → H p = none → H' p = some (.lst (ns.map V.int)) → ns.length = m → (∀ n ∈ ns, 0 ≤ n ∧ n < 1000) → Q (.ref p) H'
theorem okLawNumbers (T : Txt K mg fa fd) : FnOk P w K mg base CX0 1 (fa 3) (fd 3) ["cell", "many"] (spLawNumbers K) := by
  refine T.F__law_numbers.ok scLawNumbers (fun vs H Q E h => ?_) (fun cdv A outer s H vs Q E hr h => ?_)
  · obtain ⟨c, m, rfl, hm, q⟩ := h
    rfl
  · obtain ⟨c, m, rfl, hm, q⟩ := h
    refine ⟨_, (pss_cons (ps_set (i := 2) scLawNumbers.nd rfl (Or.inl rfl) (pe_callB call_abs (by rfl) T.m_abs (by decide +kernel) (pa_cons (pv 0) pa_nil)))
      (pss_cons (ps_set (i := 3) scLawNumbers.nd rfl (Or.inl rfl) (pv 2))
      (pss_cons (ps_set (i := 4) scLawNumbers.nd rfl (Or.inl rfl) (pe_lst pa_nil))
      (pss_cons (ps_for PassesOwn.never rfl (pi_range1 (by rfl) T.m_range (pa_cons (pv 1) pa_nil)) (pg_name (i := 5) scLawNumbers.nd rfl (Or.inl rfl))
      (pss_one (ps_if (PW.pt (pw_and (pt_cmp (pc_ge (pv 3) (pe_op op_pow pe_int pe_int))) (pw_and1 (pt_cmp (pc_gt (pv 2) pe_int)))))
        (pss_cons (ps_expr (pe_bm PySem.F.plainAttrs_list PySem.F.slot_list_append PySem.F.type_list_append mt_append (pv 4) (pa_cons (pe_op op_mod (pe_callTy call_int1 (by rfl) T.m_int (by decide +kernel) (pa_cons (pv 2) pa_nil)) pe_int) pa_nil)))
          (pss_one (ps_set (i := 2) scLawNumbers.nd rfl (Or.inl rfl) (pe_op op_fdiv (pv 2) pe_int))))
        (pss_cons (ps_set (i := 6) scLawNumbers.nd rfl (Or.inl rfl) (pe_op op_mod (pe_callTy call_int1 (by rfl) T.m_int (by decide +kernel) (pa_cons (pe_op op_add (pe_op op_add (pe_op op_mul (pv 3) pe_int) (pe_op op_mul (pv 5) pe_int)) pe_int) pa_nil)) pe_int))
          (pss_cons (ps_set (i := 6) scLawNumbers.nd rfl (Or.inl rfl) (pe_op op_mod (pe_callTy call_int1 (by rfl) T.m_int (by decide +kernel) (pa_cons (pe_op op_add (pe_op op_add (pe_op op_mul (pv 6) (pv 6)) (pe_op op_mul pe_int (pv 5))) pe_int) pa_nil)) pe_int))
          (pss_one (ps_expr (pe_bm PySem.F.plainAttrs_list PySem.F.slot_list_append PySem.F.type_list_append mt_append (pv 4) (pa_cons (pe_op op_mod (pe_callTy call_int1 (by rfl) T.m_int (by decide +kernel) (pa_cons (pe_op op_fdiv (pv 6) pe_int) pa_nil)) pe_int) pa_nil)))))))))
      (pss_one (ps_ret (pv 4))))))), ?_⟩
    refine ⟨_, rfl, _, rfl, _, rfl, Nat.zero_le _, fun o no => ?_⟩
    refine ⟨_, rfl, _, rfl, by omega, by omega, for_range (lo := 0) (n := m) (fun i σ H' => ∃ (rest span : Int) (x5 x6 : Option V) (ns : List Int), σ = [some (.int c), some (.int (m : Int)), some (.int rest), some (.int span), some (.ref o), x5, x6] ∧ Same H H' ∧ H' o = some (.lst (ns.map V.int)) ∧ ns.length = i ∧ ∀ n ∈ ns, 0 ≤ n ∧ n < 1000)
      ⟨_, _, _, _, [], rfl, same_upd no, upd_same, rfl, fun n h => nomatch h⟩ (fun i σ H' hi ⟨rest, span, x5, x6, ns, hσ, hs, ho, hl, hb⟩ => ?_) (fun σ H' ⟨rest, span, x5, x6, ns, hσ, hs, ho, hl, hb⟩ => ?_)⟩
    · subst hσ
      have sz : (ns.map V.int).length < sizeLine := by
        rw [List.length_map]
        exact small1000 (by omega)
      have app : ∀ r : Int, 0 ≤ r → r < 1000 → (upd H' o (.lst (ns.map V.int ++ [V.int r]))) o = some (.lst ((ns ++ [r]).map V.int)) ∧ (ns ++ [r]).length = i + 1 ∧ ∀ n ∈ ns ++ [r], 0 ≤ n ∧ n < 1000 := fun r h0 h1 => by
        refine ⟨by rw [upd_same, List.map_append]; rfl, by rw [List.length_append, hl]; rfl, fun n hn => ?_⟩
        rcases List.mem_append.mp hn with hn | hn
        · exact hb n hn
        · rw [List.mem_singleton.mp hn]
          exact ⟨h0, h1⟩
      refine ⟨_, rfl, _, _, rfl, rfl, ⟨by decide, by decide, by decide⟩, _, _, rfl, rfl, _, rfl, ?_⟩
      have tl : ∀ (D : Ends) (rest' : Int) (x5' x6' : Option V) (r : Int), 0 ≤ r → r < 1000 → (∀ σ' H2, (∃ (rest span : Int) (x5 x6 : Option V) (ns : List Int), σ' = [some (.int c), some (.int (m : Int)), some (.int rest), some (.int span), some (.ref o), x5, x6] ∧ Same H H2 ∧ H2 o = some (.lst (ns.map V.int)) ∧ ns.length = i + 1 ∧ ∀ n ∈ ns, 0 ≤ n ∧ n < 1000) → D.nx σ' H2) → D.nx [some (.int c), some (.int (m : Int)), some (.int rest'), some (.int span), some (.ref o), x5', x6'] (upd H' o (.lst (ns.map V.int ++ [V.int r]))) := fun D rest' x5' x6' r h0 h1 k => by
        obtain ⟨a1, a2, a3⟩ := app r h0 h1
        exact k _ _ ⟨rest', span, x5', x6', _, rfl, same_mut hs no, a1, a2, a3⟩
      have m1 : ∀ z : Int, 0 ≤ z % 1000 ∧ z % 1000 < 1000 := fun z => by omega
      have m2 : ∀ z : Int, 0 ≤ z % 2147483647 ∧ z % 2147483647 < 2147483647 := fun z => by omega
      refine ite2 (fun e => ?_) (fun e => ?_)
      · refine ⟨_, rfl, _, _, rfl, rfl, _, rfl, ite2 (fun e => ?_) (fun e => ?_)⟩
        · refine ⟨_, rfl, .inl ⟨rfl, _, SqL.of ho⟩, _, rfl, .inl ⟨_, rfl, _, _, rfl, rfl, by show (0 : Int) < 1000; decide, _, _, _, rfl, rfl, ho, sz, ?_⟩⟩
          refine ⟨_, rfl, _, _, rfl, rfl, ⟨by decide, by decide⟩, ?_⟩
          obtain ⟨a1, a2, a3⟩ := app (rest % 1000) (m1 _).1 (m1 _).2
          exact ⟨_, _, _, _, _, rfl, same_mut hs no, a1, a2, a3⟩
        · refine ⟨_, rfl, _, _, rfl, rfl, .inr ⟨by decide, by decide⟩, _, rfl, _, _, rfl, rfl, .inr ⟨by decide, by decide⟩, _, _, rfl, rfl, _, _, rfl, rfl, .inl ⟨_, rfl, _, _, rfl, rfl, by show (0 : Int) < 2147483647; decide, ?_⟩⟩
          refine ⟨_, rfl, _, rfl, _, _, rfl, rfl, .inl ?_, _, rfl, _, _, rfl, rfl, .inl ⟨by decide, by decide⟩, _, _, rfl, rfl, _, _, rfl, rfl, .inl ⟨_, rfl, _, _, rfl, rfl, by show (0 : Int) < 2147483629; decide, ?_⟩⟩
          · have h := m2 (span * 48271 + (0 + (i : Int)) * 69621 + 11)
            omega
          refine ⟨_, rfl, .inl ⟨rfl, _, SqL.of ho⟩, _, rfl, _, _, rfl, rfl, ⟨by decide, by decide⟩, .inl ⟨_, rfl, _, _, rfl, rfl, by show (0 : Int) < 1000; decide, _, _, _, rfl, rfl, ho, sz, ?_⟩⟩
          obtain ⟨a1, a2, a3⟩ := app _ (m1 _).1 (m1 _).2
          exact ⟨_, _, _, _, _, rfl, same_mut hs no, a1, a2, a3⟩
      · refine iteF ?_
        refine ⟨_, rfl, _, _, rfl, rfl, .inr ⟨by decide, by decide⟩, _, rfl, _, _, rfl, rfl, .inr ⟨by decide, by decide⟩, _, _, rfl, rfl, _, _, rfl, rfl, .inl ⟨_, rfl, _, _, rfl, rfl, by show (0 : Int) < 2147483647; decide, ?_⟩⟩
        refine ⟨_, rfl, _, rfl, _, _, rfl, rfl, .inl ?_, _, rfl, _, _, rfl, rfl, .inl ⟨by decide, by decide⟩, _, _, rfl, rfl, _, _, rfl, rfl, .inl ⟨_, rfl, _, _, rfl, rfl, by show (0 : Int) < 2147483629; decide, ?_⟩⟩
        · have h := m2 (span * 48271 + (0 + (i : Int)) * 69621 + 11)
          omega
        refine ⟨_, rfl, .inl ⟨rfl, _, SqL.of ho⟩, _, rfl, _, _, rfl, rfl, ⟨by decide, by decide⟩, .inl ⟨_, rfl, _, _, rfl, rfl, by show (0 : Int) < 1000; decide, _, _, _, rfl, rfl, ho, sz, ?_⟩⟩
        obtain ⟨a1, a2, a3⟩ := app _ (m1 _).1 (m1 _).2
        exact ⟨_, _, _, _, _, rfl, same_mut hs no, a1, a2, a3⟩
    · subst hσ
      exact ⟨_, rfl, q _ _ ns hs no ho hl hb⟩
def spLawState (K : PySem.W.Frag) : Sp := fun vs H Q _ => ∃ (l : Addr) (ns : List Int), vs = [.ref l] ∧ SqL K H l (ns.map V.int) ∧ ∀ H' p a, Same H H' → Dw H' p a 0 → Q (.ref p) H'
theorem okLawState (T : Txt K mg fa fd) : FnOk P w K mg base CX0 2 (fa 4) (fd 4) ["script"] (spLawState K) := by
  refine T.F__law_state.ok scLawState (fun vs H Q E h => ?_) (fun cdv A outer s H vs Q E hr h => ?_)
  · obtain ⟨l, ns, rfl, hS, q⟩ := h
    rfl
  · obtain ⟨l, ns, rfl, hS, q⟩ := h
    refine ⟨_, (pss_cons (ps_set (i := 1) scLawState.nd rfl (Or.inl rfl) (pe_lst pa_nil))
      (pss_cons (ps_for PassesOwn.never rfl (pi_range1 (by rfl) T.m_range (pa_cons pe_int pa_nil)) (pg_name (i := 2) scLawState.nd rfl (Or.inl rfl))
      (pss_one (ps_set (i := 1) scLawState.nd rfl (Or.inl rfl) (pe_op op_cat (pv 1) (pe_call (okLawNumbers T) hr (by rfl) T.G__law_numbers T.F__law_numbers.kp T.B__law_numbers .nil pass0 (pa_cons (pe_op op_add (pe_callB call_abs (by rfl) T.m_abs (by decide +kernel) (pa_cons (pe_call (okLawCell T) hr (by rfl) T.G__law_cell T.F__law_cell.kp T.B__law_cell .nil pass0 (pa_cons (pv 0) (pa_cons (pv 2) pa_nil))) pa_nil)) (pe_op op_mul pe_int (pv 2))) (pa_cons pe_int pa_nil)))))))
      (pss_one (ps_ret (pe_lst (pa_cons (pv 1) (pa_cons pe_int pa_nil))))))), ?_⟩
    refine ⟨Nat.zero_le _, fun o no => ?_⟩
    refine ⟨3, rfl, by decide, by decide, for_range (lo := 0) (n := 3) (fun i σ H' => ∃ (o : Addr) (x2 : Option V) (ms : List Int), σ = [some (.ref l), some (.ref o), x2] ∧ Same H H' ∧ H' o = some (.lst (ms.map V.int)) ∧ ms.length = 40 * i ∧ ∀ n ∈ ms, 0 ≤ n ∧ n < 1000)
      ⟨o, none, [], rfl, same_upd no, upd_same, rfl, fun n h => nomatch h⟩ (fun i σ H' hi ⟨o, x2, ms, hσ, hs, ho, hl, hb⟩ => ?_) (fun σ H' ⟨o, x2, ms, hσ, hs, ho, hl, hb⟩ => ?_)⟩
    · subst hσ
      refine ⟨_, rfl, _, rfl, _, rfl, l, ns, i, ?_, hs.seq hS, fun v => ⟨_, rfl, _, rfl, _, _, rfl, rfl, .inl ⟨by decide, by decide⟩, _, _, rfl, rfl, _, 40, rfl, by decide, fun H2 u ks s2 nu hu kl kb => ?_⟩⟩
      · exact congrArg (fun t : Int => [V.ref l, V.int t]) (Int.zero_add _)
      refine ⟨_, _, _, _, rfl, rfl, s2 _ _ ho, hu, ?_, fun w nw => ?_⟩
      · rw [List.length_map, List.length_map]
        exact small200 (by omega)
      refine ⟨w, _, ms ++ ks, rfl, (hs.trans s2).trans (same_upd nw), ?_, ?_, fun n hn => ?_⟩
      · rw [upd_same, List.map_append]
      · rw [List.length_append]
        omega
      · rcases List.mem_append.mp hn with hn | hn
        · exact hb n hn
        · exact kb n hn
    · subst hσ
      refine ⟨_, rfl, by show 2 ≤ sizeLine; decide, fun p np => ?_⟩
      refine q _ p o (hs.trans (same_upd np)) ⟨0, ms, Nat.le_refl 0, ne_of_none ho np, upd_same, ?_, hl, hb⟩
      rw [upd_ne (ne_of_none ho np)]
      exact ho
def spLawNext (_ : PySem.W.Frag) : Sp := fun vs H Q _ => ∃ (p a : Addr) (many : Int) (N : Nat), vs = [.ref p, .int many] ∧ Dw H p a N ∧ N < 1000000000 ∧ 0 < many ∧
  ∀ r H', 0 ≤ r → r < many → Dw H' p a (N + 1) → (∀ b, b ≠ p → H' b = H b) → Q (.int r) H'
theorem okLawNext (T : Txt K mg fa fd) : FnOk P w K mg base CX0 1 (fa 5) (fd 5) ["state", "many"] (spLawNext K) := by
  refine T.F__law_next.ok scLawNext (fun vs H Q E h => ?_) (fun cdv A outer s H vs Q E hr h => ?_)
  · obtain ⟨p, a, many, N, rfl, ⟨m, ns, hm, hap, hp, ha, hl, hb⟩, hN, hmany, q⟩ := h
    rfl
  · obtain ⟨p, a, many, N, rfl, ⟨m, ns, hm, hap, hp, ha, hl, hb⟩, hN, hmany, q⟩ := h
    refine ⟨_, (pss_cons (ps_asg (pe_op op_add (pe_ix ix_list (pv 0) pe_int (fun _ _ => rfl)) pe_int) (pg_sub (pv 0) pe_int set_list))
      (pss_cons (ps_set (i := 2) scLawNext.nd rfl (Or.inl rfl) (pe_op op_add (pe_ix ix_list (pe_ix ix_list (pv 0) pe_int (fun _ _ => rfl)) (pe_op op_mod (pe_callTy call_int1 (by rfl) T.m_int (by decide +kernel) (pa_cons (pe_op op_mul (pe_ix ix_list (pv 0) pe_int (fun _ _ => rfl)) pe_int) pa_nil)) (pe_callB call_len_seq (by rfl) T.m_len (by decide +kernel) (pa_cons (pe_ix ix_list (pv 0) pe_int (fun _ _ => rfl)) pa_nil))) (fun _ _ => rfl)) (pe_op op_mul (pe_op op_mul pe_int (pe_ix ix_list (pv 0) pe_int (fun _ _ => rfl))) (pe_op op_add pe_int (pe_op op_fdiv (pe_ix ix_list (pv 0) pe_int (fun _ _ => rfl)) (pe_callB call_len_seq (by rfl) T.m_len (by decide +kernel) (pa_cons (pe_ix ix_list (pv 0) pe_int (fun _ _ => rfl)) pa_nil)))))))
      (pss_one (ps_ret (pe_op op_mod (pe_callTy call_int1 (by rfl) T.m_int (by decide +kernel) (pa_cons (pv 2) pa_nil)) (pv 1)))))), ?_⟩
    have eS : SqL K H p [.ref a, .int (m : Int)] := SqL.of hp
    refine ⟨_, rfl, _, _, _, _, rfl, rfl, eS, atI_nat (j := 1) rfl, _, _, rfl, rfl, _, rfl, _, _, _, 1, rfl, rfl, hp, rfl, ?_⟩
    have h1p : (upd H p (.lst [.ref a, .int ((m : Int) + 1)])) p = some (.lst [.ref a, .int ((m : Int) + 1)]) := upd_same
    have h1a : (upd H p (.lst [.ref a, .int ((m : Int) + 1)])) a = some (.lst (ns.map V.int)) := by
      rw [upd_ne hap]
      exact ha
    have fr : ∀ b, b ≠ p → (upd H p (.lst [.ref a, .int ((m : Int) + 1)])) b = H b := fun b hb => upd_ne hb
    show tSeq _ _ _ _ (upd H p (.lst [.ref a, .int ((m : Int) + 1)]))
    generalize upd H p (.lst [.ref a, .int ((m : Int) + 1)]) = H1 at h1p h1a fr
    have S1 : SqL K H1 p [.ref a, .int ((m : Int) + 1)] := SqL.of h1p
    have A1 : SqL K H1 a (ns.map V.int) := SqL.of h1a
    have hl2 : ((ns.map V.int).length : Int) = 120 := by
      rw [List.length_map, hl]
      rfl
    obtain ⟨x, hx, ex⟩ := at_int (ns := ns) (r := ((m : Int) + 1) * 7 % 120) (by omega) (by omega)
    refine ⟨_, rfl, _, _, _, _, rfl, rfl, S1, atI_nat (j := 0) rfl, _, rfl, _, _, _, _, rfl, rfl, S1, atI_nat (j := 1) rfl, _, _, rfl, rfl, .inr ⟨by decide, by decide⟩, .inl ⟨_, rfl, _, rfl, _, _, _, _, rfl, rfl, S1, atI_nat (j := 0) rfl, _, _, rfl, .inl A1, ?_⟩⟩
    rw [hl2]
    refine ⟨_, _, rfl, rfl, by show (0 : Int) < 120; decide, _, _, _, _, rfl, rfl, A1, ex, ?_⟩
    refine ⟨_, rfl, _, _, _, _, rfl, rfl, S1, atI_nat (j := 1) rfl, _, _, rfl, rfl, .inl ⟨by decide, by decide⟩, _, rfl, _, _, _, _, rfl, rfl, S1, atI_nat (j := 1) rfl, _, rfl, _, _, _, _, rfl, rfl, S1, atI_nat (j := 0) rfl, _, _, rfl, .inl A1, ?_⟩
    rw [hl2]
    refine ⟨_, _, rfl, rfl, ⟨by decide, by decide⟩, _, _, rfl, rfl, _, _, rfl, rfl, .inl ⟨by omega, by omega⟩, _, _, rfl, rfl, ?_⟩
    refine ⟨_, rfl, .inl ⟨_, rfl, _, rfl, _, _, rfl, rfl, hmany, ?_⟩⟩
    exact q _ _ (Int.emod_nonneg _ (by omega)) (Int.emod_lt_of_pos _ hmany) ⟨m + 1, ns, by omega, hap, h1p, h1a, hl, hb⟩ fr
def spLawWide (_ : PySem.W.Frag) : Sp := fun vs H Q _ => ∃ (p a : Addr) (many : Int) (N : Nat), vs = [.ref p, .int many] ∧ Dw H p a N ∧ N < 900000000 ∧ 0 < many ∧
  ∀ r H', 0 ≤ r → r < many → Dw H' p a (N + 6) → (∀ b, b ≠ p → H' b = H b) → Q (.int r) H'
theorem okLawWide (T : Txt K mg fa fd) : FnOk P w K mg base CX0 2 (fa 6) (fd 6) ["state", "many"] (spLawWide K) := by
  refine T.F__law_wide.ok scLawWide (fun vs H Q E h => ?_) (fun cdv A outer s H vs Q E hr h => ?_)
  · obtain ⟨p, a, many, N, rfl, hD, hN, hmany, q⟩ := h
    rfl
  · obtain ⟨p, a, many, N, rfl, hD, hN, hmany, q⟩ := h
    refine ⟨_, (pss_cons (ps_set (i := 2) scLawWide.nd rfl (Or.inl rfl) pe_int)
      (pss_cons (ps_for PassesOwn.never rfl (pi_range1 (by rfl) T.m_range (pa_cons pe_int pa_nil)) (pg_name (i := 3) scLawWide.nd rfl (Or.inl rfl))
      (pss_one (ps_set (i := 2) scLawWide.nd rfl (Or.inl rfl) (pe_op op_add (pe_op op_mul (pv 2) pe_int) (pe_call (okLawNext T) hr (by rfl) T.G__law_next T.F__law_next.kp T.B__law_next .nil pass0 (pa_cons (pv 0) (pa_cons pe_int pa_nil)))))))
      (pss_one (ps_ret (pe_op op_mod (pv 2) (pv 1)))))), ?_⟩
    refine ⟨6, rfl, by decide, by decide, for_range (lo := 0) (n := 6) (fun i σ H' => ∃ (t : Int) (x3 : Option V), σ = [some (.ref p), some (.int many), some (.int t), x3] ∧ Dw H' p a (N + i) ∧ ∀ b, b ≠ p → H' b = H b)
      ⟨0, none, rfl, hD, fun _ _ => rfl⟩ (fun i σ H' hi ⟨t, x3, hσ, hd, fr⟩ => ?_) (fun σ H' ⟨t, x3, hσ, hd, fr⟩ => ?_)⟩
    · subst hσ
      refine ⟨_, rfl, _, _, rfl, rfl, .inr ⟨by decide, by decide⟩, _, rfl, p, a, 1000, N + i, rfl, hd, by omega, by decide, fun r H2 h0 h1 hd2 fr2 => ?_⟩
      refine ⟨_, _, rfl, rfl, _, _, rfl, ?_, fun b hb => (fr2 b hb).trans (fr b hb)⟩
      exact hd2
    · subst hσ
      refine ⟨_, rfl, _, rfl, _, _, rfl, rfl, hmany, ?_⟩
      exact q _ _ (Int.emod_nonneg _ (by omega)) (Int.emod_lt_of_pos _ hmany) hd fr
def spLaw (K : PySem.W.Frag) : Sp := fun vs H Q _ => ∃ (a : Addr) (ns : List Int), vs = [.ref a] ∧ SqL K H a (ns.map V.int) ∧ ns.length ≤ 63 ∧ ∀ H', Q (.bl true) H'
theorem grow_lt {r x : Int} {i : Nat} (h0 : 0 ≤ r) (h : r < 2 ^ (60 * (i + 1))) (x0 : 0 ≤ x) (x1 : x < 1000) : 0 ≤ r * (10 ^ 18 + 9) + x ∧ r * (10 ^ 18 + 9) + x < 2 ^ (60 * (i + 1 + 1)) := by
  have e : (2 : Int) ^ (60 * (i + 1 + 1)) = 2 ^ (60 * (i + 1)) * 2 ^ 60 := by
    rw [← Int.pow_add]
    congr 1
  rw [e]
  generalize (2 : Int) ^ (60 * (i + 1)) = B at h ⊢
  omega
theorem okLaw (T : Txt K mg fa fd) : FnOk P w K mg base CX0 3 (fa 7) (fd 7) ["script"] (spLaw K) := by
  refine T.F_law.ok scLaw (fun vs H Q E h => ?_) (fun cdv A outer s H vs Q E hr h => ?_)
  · obtain ⟨l, ns, rfl, hS, hlen, q⟩ := h
    rfl
  · obtain ⟨l, ns, rfl, hS, hlen, q⟩ := h
    refine ⟨_, (pss_cons (ps_set (i := 1) scLaw.nd rfl (Or.inl rfl) (pe_call (okLawState T) hr (by rfl) T.G__law_state T.F__law_state.kp T.B__law_state .nil pass0 (pa_cons (pv 0) pa_nil)))
      (pss_cons (ps_set (i := 2) scLaw.nd rfl (Or.inl rfl) (pe_ix ix_list (pe_lst (pa_cons (pe_call (okLawNext T) (hr.mono (by decide)) (by rfl) T.G__law_next T.F__law_next.kp T.B__law_next .nil pass0 (pa_cons (pv 1) (pa_cons pe_int pa_nil))) (pa_cons (pe_call (okLawWide T) hr (by rfl) T.G__law_wide T.F__law_wide.kp T.B__law_wide .nil pass0 (pa_cons (pv 1) (pa_cons (pe_op op_pow pe_int pe_int) pa_nil))) pa_nil))) (pe_call (okLawNext T) (hr.mono (by decide)) (by rfl) T.G__law_next T.F__law_next.kp T.B__law_next .nil pass0 (pa_cons (pv 1) (pa_cons pe_int pa_nil))) (fun _ _ => rfl)))
      (C8.pss_cut (ps_if (pt_cmp (pc_eqI (pe_call (okLawNext T) (hr.mono (by decide)) (by rfl) T.G__law_next T.F__law_next.kp T.B__law_next .nil pass0 (pa_cons (pv 1) (pa_cons pe_int pa_nil))) pe_int))
      (pss_one (ps_for PassesOwn.never rfl (pi_range1 (by rfl) T.m_range (pa_cons (pe_call (okLawNext T) (hr.mono (by decide)) (by rfl) T.G__law_next T.F__law_next.kp T.B__law_next .nil pass0 (pa_cons (pv 1) (pa_cons pe_int pa_nil))) pa_nil)) (pg_name (i := 3) scLaw.nd rfl (Or.inl rfl))
        (pss_one (ps_set (i := 2) scLaw.nd rfl (Or.inl rfl) (pe_op op_add (pe_op op_mul (pv 2) (pe_op op_add (pe_op op_pow pe_int pe_int) pe_int)) (pe_call (okLawNext T) (hr.mono (by decide)) (by rfl) T.G__law_next T.F__law_next.kp T.B__law_next .nil pass0 (pa_cons (pv 1) (pa_cons pe_int pa_nil))))))))
      pss_nil)
      (pss_cons (ps_set (i := 4) scLaw.nd rfl (Or.inl rfl) (pe_ix ix_list (pe_lst (pa_cons (pe_op op_sub (pe_op op_add (pe_op op_mulW (pv 2) (pv 2)) (pe_call (okLawNext T) (hr.mono (by decide)) (by rfl) T.G__law_next T.F__law_next.kp T.B__law_next .nil pass0 (pa_cons (pv 1) (pa_cons pe_int pa_nil)))) pe_int) (pa_cons (pe_op op_mulW (pv 2) (pv 2)) (pa_cons (pe_call (okLawWide T) hr (by rfl) T.G__law_wide T.F__law_wide.kp T.B__law_wide .nil pass0 (pa_cons (pv 1) (pa_cons (pe_op op_pow pe_int pe_int) pa_nil))) pa_nil)))) (pe_call (okLawNext T) (hr.mono (by decide)) (by rfl) T.G__law_next T.F__law_next.kp T.B__law_next .nil pass0 (pa_cons (pv 1) (pa_cons pe_int pa_nil))) (fun _ _ => rfl)))
      (pss_cons (ps_if (pt_cmp (pc_lt (pv 4) pe_int))
      (pss_one (ps_ret (pe_cmpR op_isBl (pe_call (okIsSquare T) hr (by rfl) T.G_is_square T.F_is_square.kp T.B_is_square .nil pass0 (pa_cons (pv 4) pa_nil)) pe_bl (nomark _))))
      pss_nil)
      (pss_cons (ps_set (i := 5) scLaw.nd rfl (Or.inl rfl) (pe_call (okFloorRoot T) (hr.mono (by decide)) (by rfl) T.G_floor_root T.F_floor_root.kp T.B_floor_root .nil pass0 (pa_cons (pv 4) pa_nil)))
      (pss_cons (ps_if (PW.pt (pw_or (pt_val (pe_callB call_isi (by rfl) T.m_isinstance (by decide +kernel) (pa_cons (pv 5) (pa_cons (pe_bltn (v := .ty "bool") (by rfl) T.m_bool (by decide +kernel) rfl) pa_nil)))) (pw_or (pt_cmp (pc_lt (pv 5) pe_int)) (pw_or (pt_cmp (pc_gt (pe_op op_mulW (pv 5) (pv 5)) (pv 4))) (pw_or1 (pt_cmp (pc_le (pe_op op_mulW (pe_op op_add (pv 5) pe_int) (pe_op op_add (pv 5) pe_int)) (pv 4))))))))
      (pss_one (ps_ret pe_bl))
      pss_nil)
      (pss_one (ps_ret (pe_and (pe_cmpR op_eq (pe_call (okIsSquare T) hr (by rfl) T.G_is_square T.F_is_square.kp T.B_is_square .nil pass0 (pa_cons (pv 4) pa_nil)) (pe_cmp (pc_eqI (pe_op op_mulW (pv 5) (pv 5)) (pv 4))) (nomark _)) (pe_and (pe_callB call_isi (by rfl) T.m_isinstance (by decide +kernel) (pa_cons (pe_call (okIsSquare T) hr (by rfl) T.G_is_square T.F_is_square.kp T.B_is_square .nil pass0 (pa_cons (pv 4) pa_nil)) (pa_cons (pe_bltn (v := .ty "bool") (by rfl) T.m_bool (by decide +kernel) rfl) pa_nil))) (pe_one (pe_cmpR op_isBl (pe_call (okIsSquare T) hr (by rfl) T.G_is_square T.F_is_square.kp T.B_is_square .nil pass0 (pa_cons (pe_op op_sub (pe_un un_neg pe_int) (pv 4)) pa_nil)) pe_bl (nomark _)))))))))))))), ?_⟩
    refine ⟨_, rfl, l, ns, rfl, hS, fun H1 p a s1 d1 => ?_⟩
    -- r = [.., ..][..]
    refine ⟨_, rfl, p, a, 40, 0, rfl, d1, by decide, by decide, fun r1 H2 r1a r1b d2 f2 => ⟨_, rfl, _, _, rfl, rfl, ⟨by decide, by decide, by decide⟩, p, a, _, 1, rfl, d2, by decide, by decide, fun r2 H3 r2a r2b d3 f3 => ⟨by show 2 ≤ sizeLine; decide, fun o no => ⟨_, rfl, p, a, 2, 7, rfl, d3.new no, by decide, by decide, fun r3 H4 r3a r3b d4 f4 => ?_⟩⟩⟩⟩
    have ho : H4 o = some (.lst [.int r1, .int r2]) := by
      rw [f4 o (d3.ne no).1]
      exact upd_same
    obtain ⟨v, hv, ev⟩ := at_mem (xs := [V.int r1, V.int r2]) r3a r3b
    obtain ⟨r, rfl, r0, rb⟩ : ∃ r : Int, v = .int r ∧ 0 ≤ r ∧ r < 2 ^ 60 := by
      have r2c : r2 < 1000000000000000000 := r2b
      rcases List.mem_cons.mp hv with e | hv
      · exact ⟨r1, e, r1a, by omega⟩
      · rw [List.mem_singleton] at hv
        exact ⟨r2, hv, r2a, by omega⟩
    refine ⟨_, _, _, _, rfl, rfl, SqL.of ho, ev, ?_⟩
    -- if _law_next(state, 8) == 0
    refine ⟨fun σ H => ∃ (r : Int) (x3 : Option V), σ = [some (.ref l), some (.ref p), some (.int r), x3, none, none] ∧ 0 ≤ r ∧ r < 2 ^ 4860 ∧ Dw H p a 200, ?_, ?_⟩
    · refine ⟨_, rfl, p, a, 8, _, rfl, d4, by decide, by decide, fun r4 H5 r4a r4b d5 f5 => ⟨_, _, rfl, rfl, _, rfl, ite2 (fun e => ?_) (fun e => ?_)⟩⟩
      · refine ⟨_, rfl, p, a, 80, _, rfl, d5, by decide, by decide, fun r5 H6 r5a r5b d6 f6 => ⟨_, rfl, by omega, by omega, ?_⟩⟩
        refine for_range (lo := 0) (n := r5.toNat) (fun i σ H => ∃ (r : Int) (x3 : Option V), σ = [some (.ref l), some (.ref p), some (.int r), x3, none, none] ∧ 0 ≤ r ∧ r < 2 ^ (60 * (i + 1)) ∧ Dw H p a (20 + i))
          ⟨r, none, rfl, r0, rb, d6.mono (by decide)⟩ (fun i σ H' hi ⟨r, x3, hσ, z0, z1, hd⟩ => ?_) (fun σ H' ⟨r, x3, hσ, z0, z1, hd⟩ => ⟨r, x3, hσ, z0, Int.lt_of_lt_of_le z1 ?_, hd.mono (by omega)⟩)
        · subst hσ
          refine ⟨_, rfl, _, _, rfl, rfl, pow_ok (by decide), _, _, rfl, rfl, _, _, rfl, rfl, .inr ⟨by decide, by decide⟩, _, rfl, p, a, 1000, _, rfl, hd, by omega, by decide, fun x H2 xa xb hd2 f => ?_⟩
          refine ⟨_, _, rfl, rfl, _, _, rfl, (grow_lt z0 z1 xa xb).1, (grow_lt z0 z1 xa xb).2, hd2⟩
        · exact_mod_cast Nat.pow_le_pow_right (by decide) (by omega)
      · refine ⟨r, none, rfl, r0, Int.lt_of_lt_of_le rb (by decide), d5.mono (by decide)⟩
    · rintro σ H5 ⟨r, x3, rfl, r0, rb, d5⟩
      have rn : r.natAbs < 2 ^ 4860 := by
        have e : ((2 ^ 4860 : Nat) : Int) = 2 ^ 4860 := by norm_cast
        omega
      have rr := wide_lt rn rn
      have rr0 : 0 ≤ r * r := Int.mul_nonneg r0 r0
      refine ⟨_, rfl, _, rfl, _, _, rfl, rfl, wide_mul rn rn (by decide) (by decide) (by decide), _, rfl, p, a, 5, _, rfl, d5, by decide, by decide, fun x H6 xa xb d6 f6 => ⟨_, _, rfl, rfl, _, _, rfl, rfl, _, rfl, _, rfl, _, _, rfl, rfl, wide_mul rn rn (by decide) (by decide) (by decide), _, rfl, _, _, rfl, rfl, pow_ok (by decide), p, a, _, _, rfl, d6, by decide, by decide, fun y H7 ya yb d7 f7 => ?_⟩⟩
      refine ⟨by show 3 ≤ sizeLine; decide, fun o no => ⟨_, rfl, p, a, 3, _, rfl, d7.new no, by decide, by decide, fun z H8 za zb d8 f8 => ?_⟩⟩
      have ho : H8 o = some (.lst [.int (r * r + x - 2), .int (r * r), .int y]) := by
        rw [f8 o (d7.ne no).1]
        exact upd_same
      obtain ⟨v, hv, ev⟩ := at_mem (xs := [V.int (r * r + x - 2), V.int (r * r), V.int y]) za zb
      obtain ⟨n, rfl, nb⟩ : ∃ n : Int, v = .int n ∧ n.natAbs + 10 < 2 ^ 9800 := by
        have yc : y < 1000000000000000000 := yb
        have e1 : (2 : Nat) ^ 9800 = 2 ^ (4860 + 4860) * 2 ^ 80 := by
          rw [← Nat.pow_add]
        rw [e1]
        have e2 : 1 ≤ (2 : Nat) ^ (4860 + 4860) := Nat.one_le_two_pow
        generalize (2 : Nat) ^ (4860 + 4860) = B at rr e2 ⊢
        generalize r * r = s at rr rr0 hv
        simp only [List.mem_cons, List.not_mem_nil, or_false] at hv
        rcases hv with e | e | e
        · exact ⟨_, e, by omega⟩
        · exact ⟨_, e, by omega⟩
        · exact ⟨_, e, by omega⟩
      refine ⟨_, _, _, _, rfl, rfl, SqL.of ho, ev, ?_⟩
      clear hv ev
      have up : (2 : Nat) ^ 9800 ≤ 2 ^ 13000 := Nat.pow_le_pow_right (by decide) (by decide)
      have n13 : n.natAbs < 2 ^ 13000 := by omega
      -- if n < 0
      refine ⟨_, rfl, _, _, rfl, rfl, _, rfl, ite2 (fun e => ?_) (fun e => ?_)⟩
      · have e1 : n < 0 := of_decide_eq_true e
        refine ⟨_, rfl, n, rfl, n13, _, _, rfl, rfl, ?_⟩
        rw [show decide (0 ≤ n ∧ rootI n * rootI n = n) = false from decide_eq_false fun z => by omega]
        exact q _
      · have h0 : 0 ≤ n := by
          have e1 : ¬ n < 0 := fun z => e (decide_eq_true z)
          omega
        obtain ⟨t0, t1, t2⟩ := rootI_spec h0
        have n98 : n.natAbs < 2 ^ 9800 := by omega
        have tb := rootI_lt h0 n98
        have tb1 : (rootI n + 1).natAbs < 2 ^ 9801 := by
          have e3 : (2 : Nat) ^ 9801 = 2 ^ 9800 * 2 := Nat.pow_succ _ _
          omega
        -- told = floor_root(n)
        refine ⟨_, rfl, n, rfl, h0, n13, ?_⟩
        refine ⟨_, rfl, _, _, _, _, false, rfl, ClsV.ty _, TyX.base (.int _), kit_ty (by decide +kernel), _, rfl, iteF ?_⟩
        refine ⟨_, rfl, _, _, rfl, rfl, _, rfl, wayF (by omega) ?_⟩
        refine ⟨_, rfl, _, rfl, _, _, rfl, rfl, wide_mul tb tb (by decide) (by decide) (by decide), _, rfl, _, _, rfl, rfl, _, rfl, wayF (by omega) ?_⟩
        refine ⟨_, rfl, _, _, rfl, rfl, _, rfl, _, _, rfl, rfl, _, _, rfl, rfl, wide_mul tb1 tb1 (by decide) (by decide) (by decide), _, rfl, _, _, rfl, rfl, _, rfl, wayF (by omega) ?_⟩
        -- the last row
        refine ⟨_, rfl, n, rfl, n13, _, rfl, _, rfl, _, _, rfl, rfl, wide_mul tb tb (by decide) (by decide) (by decide), _, rfl, _, _, rfl, rfl, rfl, ?_⟩
        dsimp only
        rw [show decide (0 ≤ n ∧ rootI n * rootI n = n) = decide (rootI n * rootI n = n) by
          rw [decide_eq_decide]
          exact ⟨fun z => z.2, fun z => ⟨h0, z⟩⟩]
        refine ⟨_, rfl, ?_⟩
        rw [decide_eq_true rfl]
        refine iteT ⟨_, rfl, n, rfl, n13, ⟨_, _, _, _, true, rfl, ClsV.ty _, TyX.base (.bl _), kit_ty (by decide +kernel), ?_⟩⟩
        refine ⟨_, rfl, iteT ⟨_, rfl, _, rfl, _, _, rfl, rfl, _, rfl, by omega, _, _, rfl, rfl, ?_⟩⟩
        rw [show decide (0 ≤ -1 - n ∧ rootI (-1 - n) * rootI (-1 - n) = -1 - n) = false from decide_eq_false fun z => by omega]
        exact q _
end
theorem all_mk {l : PySem.W.OpenLaw} {w : World} {K : PySem.W.Frag} {h : Heap} {mg : Str → Option Value} {f : Addr} (X : K.In h) (G : h.Ns mainGlobals mg) (hfa : mg "law" = some (.ref f))
    {f0 f1 f2 f3 f4 f5 f6 f7 : Addr}
    {od0 an0 od1 an1 od2 an2 od3 an3 od4 an4 od5 an5 od6 an6 od7 an7 : Option Addr} {sl0 sl1 sl2 sl3 sl4 sl5 sl6 sl7 : Array (Option Value)}
    {oc0 kV0 dc0 pm0 cd0 ct0 oc1 kV1 dc1 pm1 cd1 ct1 oc2 kV2 dc2 pm2 cd2 ct2 oc3 kV3 dc3 pm3 cd3 ct3 oc4 kV4 dc4 pm4 cd4 ct4 oc5 kV5 dc5 pm5 cd5 ct5 oc6 kV6 dc6 pm6 cd6 ct6 oc7 kV7 dc7 pm7 cd7 ct7 : Value}
    (a0 : PySem.W.nsIn K mainGlobals "floor_root" = some (some (.ref f0))) (l0 : K.lookup f0 = some ⟨oc0, od0, .func (PySem.W.fnOf "floor_root" "floor_root" (defArgs sFloorRoot) (defBody sFloorRoot) (defScope sFloorRoot) .none kV0 dc0 pm0 an0 cd0 ct0), sl0⟩) (c0 : PySem.W.codeIn K cd0 "floor_root" = true) (k0 : PySem.W.keepIn K (.ref f0) = true)
    (a1 : PySem.W.nsIn K mainGlobals "is_square" = some (some (.ref f1))) (l1 : K.lookup f1 = some ⟨oc1, od1, .func (PySem.W.fnOf "is_square" "is_square" (defArgs sIsSquare) (defBody sIsSquare) (defScope sIsSquare) .none kV1 dc1 pm1 an1 cd1 ct1), sl1⟩) (c1 : PySem.W.codeIn K cd1 "is_square" = true) (k1 : PySem.W.keepIn K (.ref f1) = true)
    (a2 : PySem.W.nsIn K mainGlobals "_law_cell" = some (some (.ref f2))) (l2 : K.lookup f2 = some ⟨oc2, od2, .func (PySem.W.fnOf "_law_cell" "_law_cell" (defArgs sLawCell) (defBody sLawCell) (defScope sLawCell) .none kV2 dc2 pm2 an2 cd2 ct2), sl2⟩) (c2 : PySem.W.codeIn K cd2 "_law_cell" = true) (k2 : PySem.W.keepIn K (.ref f2) = true)
    (a3 : PySem.W.nsIn K mainGlobals "_law_numbers" = some (some (.ref f3))) (l3 : K.lookup f3 = some ⟨oc3, od3, .func (PySem.W.fnOf "_law_numbers" "_law_numbers" (defArgs sLawNumbers) (defBody sLawNumbers) (defScope sLawNumbers) .none kV3 dc3 pm3 an3 cd3 ct3), sl3⟩) (c3 : PySem.W.codeIn K cd3 "_law_numbers" = true) (k3 : PySem.W.keepIn K (.ref f3) = true)
    (a4 : PySem.W.nsIn K mainGlobals "_law_state" = some (some (.ref f4))) (l4 : K.lookup f4 = some ⟨oc4, od4, .func (PySem.W.fnOf "_law_state" "_law_state" (defArgs sLawState) (defBody sLawState) (defScope sLawState) .none kV4 dc4 pm4 an4 cd4 ct4), sl4⟩) (c4 : PySem.W.codeIn K cd4 "_law_state" = true) (k4 : PySem.W.keepIn K (.ref f4) = true)
    (a5 : PySem.W.nsIn K mainGlobals "_law_next" = some (some (.ref f5))) (l5 : K.lookup f5 = some ⟨oc5, od5, .func (PySem.W.fnOf "_law_next" "_law_next" (defArgs sLawNext) (defBody sLawNext) (defScope sLawNext) .none kV5 dc5 pm5 an5 cd5 ct5), sl5⟩) (c5 : PySem.W.codeIn K cd5 "_law_next" = true) (k5 : PySem.W.keepIn K (.ref f5) = true)
    (a6 : PySem.W.nsIn K mainGlobals "_law_wide" = some (some (.ref f6))) (l6 : K.lookup f6 = some ⟨oc6, od6, .func (PySem.W.fnOf "_law_wide" "_law_wide" (defArgs sLawWide) (defBody sLawWide) (defScope sLawWide) .none kV6 dc6 pm6 an6 cd6 ct6), sl6⟩) (c6 : PySem.W.codeIn K cd6 "_law_wide" = true) (k6 : PySem.W.keepIn K (.ref f6) = true)
    (a7 : PySem.W.nsIn K mainGlobals "law" = some (some (.ref f7))) (l7 : K.lookup f7 = some ⟨oc7, od7, .func (PySem.W.fnOf "law" "law" (defArgs sLaw) (defBody sLaw) (defScope sLaw) .none kV7 dc7 pm7 an7 cd7 ct7), sl7⟩) (c7 : PySem.W.codeIn K cd7 "law" = true) (k7 : PySem.W.keepIn K (.ref f7) = true)
    (z0 : PySem.W.nsIn K mainGlobals "abs" = some none)
    (z1 : PySem.W.nsIn K mainGlobals "bool" = some none)
    (z2 : PySem.W.nsIn K mainGlobals "int" = some none)
    (z3 : PySem.W.nsIn K mainGlobals "isinstance" = some none)
    (z4 : PySem.W.nsIn K mainGlobals "len" = some none)
    (z5 : PySem.W.nsIn K mainGlobals "range" = some none)
    (i0 : PySem.W.nsIn K mainGlobals "isqrt" = some (some (.builtin "math.isqrt")))
    : ∃ fd : FuncData, (∀ (s : Shared) (v : Value), BindsTo s fd ⟨[v], []⟩ [("script", v)]) ∧ ∀ base : Heap, K.In base → base.Ns mainGlobals mg → FnOk l.prog w K mg base CX0 3 f fd ["script"] (spLaw K) := by
  have e := hfa.symm.trans (PySem.W.mg_of X G a7)
  cases e
  have F0 := fun_mk (st := sFloorRoot) l0 c0 k0
  have F1 := fun_mk (st := sIsSquare) l1 c1 k1
  have F2 := fun_mk (st := sLawCell) l2 c2 k2
  have F3 := fun_mk (st := sLawNumbers) l3 c3 k3
  have F4 := fun_mk (st := sLawState) l4 c4 k4
  have F5 := fun_mk (st := sLawNext) l5 c5 k5
  have F6 := fun_mk (st := sLawWide) l6 c6 k6
  have F7 := fun_mk (st := sLaw) l7 c7 k7
  have b0 := F0.binds (ps := ["n"]) fun _ _ _ _ _ _ us hl => match us, hl with | [_], _ => rfl
  have b1 := F1.binds (ps := ["n"]) fun _ _ _ _ _ _ us hl => match us, hl with | [_], _ => rfl
  have b2 := F2.binds (ps := ["script", "k"]) fun _ _ _ _ _ _ us hl => match us, hl with | [_, _], _ => rfl
  have b3 := F3.binds (ps := ["cell", "many"]) fun _ _ _ _ _ _ us hl => match us, hl with | [_, _], _ => rfl
  have b4 := F4.binds (ps := ["script"]) fun _ _ _ _ _ _ us hl => match us, hl with | [_], _ => rfl
  have b5 := F5.binds (ps := ["state", "many"]) fun _ _ _ _ _ _ us hl => match us, hl with | [_, _], _ => rfl
  have b6 := F6.binds (ps := ["state", "many"]) fun _ _ _ _ _ _ us hl => match us, hl with | [_, _], _ => rfl
  have b7 := F7.binds (ps := ["script"]) fun _ _ _ _ _ _ us hl => match us, hl with | [_], _ => rfl
  let fa : Nat → Addr := fun i => [f0, f1, f2, f3, f4, f5, f6, f].getD i 0
  let fd : Nat → FuncData := fun i => match i with
    | 0 => PySem.W.fnOf "floor_root" "floor_root" (defArgs sFloorRoot) (defBody sFloorRoot) (defScope sFloorRoot) .none kV0 dc0 pm0 an0 cd0 ct0
    | 1 => PySem.W.fnOf "is_square" "is_square" (defArgs sIsSquare) (defBody sIsSquare) (defScope sIsSquare) .none kV1 dc1 pm1 an1 cd1 ct1
    | 2 => PySem.W.fnOf "_law_cell" "_law_cell" (defArgs sLawCell) (defBody sLawCell) (defScope sLawCell) .none kV2 dc2 pm2 an2 cd2 ct2
    | 3 => PySem.W.fnOf "_law_numbers" "_law_numbers" (defArgs sLawNumbers) (defBody sLawNumbers) (defScope sLawNumbers) .none kV3 dc3 pm3 an3 cd3 ct3
    | 4 => PySem.W.fnOf "_law_state" "_law_state" (defArgs sLawState) (defBody sLawState) (defScope sLawState) .none kV4 dc4 pm4 an4 cd4 ct4
    | 5 => PySem.W.fnOf "_law_next" "_law_next" (defArgs sLawNext) (defBody sLawNext) (defScope sLawNext) .none kV5 dc5 pm5 an5 cd5 ct5
    | 6 => PySem.W.fnOf "_law_wide" "_law_wide" (defArgs sLawWide) (defBody sLawWide) (defScope sLawWide) .none kV6 dc6 pm6 an6 cd6 ct6
    | _ => PySem.W.fnOf "law" "law" (defArgs sLaw) (defBody sLaw) (defScope sLaw) .none kV7 dc7 pm7 an7 cd7 ct7
  have T : Txt K mg fa fd := {
    F_floor_root := F0, B_floor_root := b0, G_floor_root := PySem.W.mg_of X G a0,
    F_is_square := F1, B_is_square := b1, G_is_square := PySem.W.mg_of X G a1,
    F__law_cell := F2, B__law_cell := b2, G__law_cell := PySem.W.mg_of X G a2,
    F__law_numbers := F3, B__law_numbers := b3, G__law_numbers := PySem.W.mg_of X G a3,
    F__law_state := F4, B__law_state := b4, G__law_state := PySem.W.mg_of X G a4,
    F__law_next := F5, B__law_next := b5, G__law_next := PySem.W.mg_of X G a5,
    F__law_wide := F6, B__law_wide := b6, G__law_wide := PySem.W.mg_of X G a6,
    F_law := F7, B_law := b7, G_law := PySem.W.mg_of X G a7,
    m_abs := PySem.W.mg_none_of X G z0, m_bool := PySem.W.mg_none_of X G z1, m_int := PySem.W.mg_none_of X G z2, m_isinstance := PySem.W.mg_none_of X G z3, m_len := PySem.W.mg_none_of X G z4, m_range := PySem.W.mg_none_of X G z5, g_isqrt := PySem.W.mg_of X G i0 }
  exact ⟨fd 7, fun s v => .of_eq rfl, fun base _ _ => okLaw T⟩
end Wc
open PySem PySem.W PyProof.Rows
set_option maxHeartbeats 0 in
theorem PySem.Challenge.cw_wholeconic_k01_whole_roots_holds : PySem.Challenge.rw_wholeconic_k01_whole_roots.Holds := by
  w_on; o_law; k_head; (case hw => w_witness2)
  k_fill
  refine L2.walk_of (l := PySem.Challenge.rw_wholeconic_k01_whole_roots) (n := 63) (k := 3) (x := "script") (CX := fun _ => L2.CX0) (sp := fun w => Wc.spLaw _) rfl (by decide) rfl ⟨rfl, by decide, by decide⟩ (fun w h Y => PySem.W.kIn_of Y) ?F (fun _ _ a ns hl _ hS => ⟨a, ns, rfl, hS, hl, fun _ => rfl⟩) (fun _ _ _ _ _ h => h)
  case F =>
    intro w mg fa h KX G hmg
    refine' Wc.all_mk KX G hmg ?a0 ?l0 ?c0 ?k0 ?a1 ?l1 ?c1 ?k1 ?a2 ?l2 ?c2 ?k2 ?a3 ?l3 ?c3 ?k3 ?a4 ?l4 ?c4 ?k4 ?a5 ?l5 ?c5 ?k5 ?a6 ?l6 ?c6 ?k6 ?a7 ?l7 ?c7 ?k7 ?z0 ?z1 ?z2 ?z3 ?z4 ?z5 ?i0
    (case a0 => k_is); (case l0 => k_is); (case c0 => k_is); (case k0 => k_is); (case a1 => k_is); (case l1 => k_is); (case c1 => k_is); (case k1 => k_is); (case a2 => k_is); (case l2 => k_is); (case c2 => k_is); (case k2 => k_is); (case a3 => k_is); (case l3 => k_is); (case c3 => k_is); (case k3 => k_is); (case a4 => k_is); (case l4 => k_is); (case c4 => k_is); (case k4 => k_is); (case a5 => k_is); (case l5 => k_is); (case c5 => k_is); (case k5 => k_is); (case a6 => k_is); (case l6 => k_is); (case c6 => k_is); (case k6 => k_is); (case a7 => k_is); (case l7 => k_is); (case c7 => k_is); (case k7 => k_is); (case z0 => k_is); (case z1 => k_is); (case z2 => k_is); (case z3 => k_is); (case z4 => k_is); (case z5 => k_is); (case i0 => k_is)
