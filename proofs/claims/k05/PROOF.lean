import PyProof.Rows.All
import Wide.All
import OpenK.AllK
import Wide.FinOn
import HandS.ExcOwn
import HandS.WordsExc
import HandS.ExcInit
import KE.KExcIs
import HandS.Defaults
import HandS.ForMost
import HandS.Wide
import HandS.Gcd
import HandS.Style
import HandS.IsInst
import HandS.Codes
import Flt.RightSqrt
import PySem.Challenge.RW_wholeconic_k05_continued_fractions
set_option Elab.async false
set_option linter.all false
set_option maxRecDepth 100000
set_option maxHeartbeats 4000000
namespace Wc
open PySem PySem.Spec PyProof.Rows L2
/-! ### the text -/
def topS (i : Nat) : Stmt := PySem.Challenge.pw_wholeconic_k05_continued_fractions.main.body.getD i (.Pass ⟨0, 0, 0, 0⟩)
abbrev sFloorRoot : Stmt := topS 6
theorem scFloorRoot : FnScope ["n"] ["n"] (defScope sFloorRoot) := ⟨rfl, rfl, rfl, by decide +kernel, rfl, by decide +kernel, by decide +kernel⟩
abbrev sIsSquare : Stmt := topS 7
theorem scIsSquare : FnScope ["n", "root"] ["n"] (defScope sIsSquare) := ⟨rfl, rfl, rfl, by decide +kernel, rfl, by decide +kernel, by decide +kernel⟩
abbrev sExpand : Stmt := topS 9
theorem scExpand : FnScope ["p", "q", "d", "root", "places", "parts", "part", "first"] ["p", "q", "d"] (defScope sExpand) := ⟨rfl, rfl, rfl, by decide +kernel, rfl, by decide +kernel, by decide +kernel⟩
abbrev sPartOf : Stmt := topS 10
theorem scPartOf : FnScope ["p", "q", "root"] ["p", "q", "root"] (defScope sPartOf) := ⟨rfl, rfl, rfl, by decide +kernel, rfl, by decide +kernel, by decide +kernel⟩
abbrev sPartAt : Stmt := topS 11
theorem scPartAt : FnScope ["expansion", "index", "first", "period"] ["expansion", "index"] (defScope sPartAt) := ⟨rfl, rfl, rfl, by decide +kernel, rfl, by decide +kernel, by decide +kernel⟩
abbrev sLawCell : Stmt := topS 13
theorem scLawCell : FnScope ["script", "k"] ["script", "k"] (defScope sLawCell) := ⟨rfl, rfl, rfl, by decide +kernel, rfl, by decide +kernel, by decide +kernel⟩
abbrev sLawNumbers : Stmt := topS 14
theorem scLawNumbers : FnScope ["cell", "many", "rest", "span", "numbers", "k", "mixed"] ["cell", "many"] (defScope sLawNumbers) := ⟨rfl, rfl, rfl, by decide +kernel, rfl, by decide +kernel, by decide +kernel⟩
abbrev sLawState : Stmt := topS 15
theorem scLawState : FnScope ["script", "numbers", "k"] ["script"] (defScope sLawState) := ⟨rfl, rfl, rfl, by decide +kernel, rfl, by decide +kernel, by decide +kernel⟩
abbrev sLawNext : Stmt := topS 16
theorem scLawNext : FnScope ["state", "many", "number"] ["state", "many"] (defScope sLawNext) := ⟨rfl, rfl, rfl, by decide +kernel, rfl, by decide +kernel, by decide +kernel⟩
abbrev sLawWide : Stmt := topS 17
theorem scLawWide : FnScope ["state", "many", "total", "k"] ["state", "many"] (defScope sLawWide) := ⟨rfl, rfl, rfl, by decide +kernel, rfl, by decide +kernel, by decide +kernel⟩
abbrev sLawRoot : Stmt := topS 18
theorem scLawRoot : FnScope ["n", "low", "high", "k", "middle"] ["n"] (defScope sLawRoot) := ⟨rfl, rfl, rfl, by decide +kernel, rfl, by decide +kernel, by decide +kernel⟩
abbrev sLawIsAtMost : Stmt := topS 19
theorem scLawIsAtMost : FnScope ["n", "p", "q", "d", "rest"] ["n", "p", "q", "d"] (defScope sLawIsAtMost) := ⟨rfl, rfl, rfl, by decide +kernel, rfl, by decide +kernel, by decide +kernel⟩
abbrev sLawPart : Stmt := topS 20
theorem scLawPart : FnScope ["p", "q", "d", "low", "high", "k", "middle"] ["p", "q", "d"] (defScope sLawPart) := ⟨rfl, rfl, rfl, by decide +kernel, rfl, by decide +kernel, by decide +kernel⟩
abbrev sLawRefused : Stmt := topS 21
theorem scLawRefused : FnScope ["p", "q", "d", "e"] ["p", "q", "d"] (defScope sLawRefused) := ⟨rfl, rfl, rfl, by decide +kernel, rfl, by decide +kernel, by decide +kernel⟩
abbrev sLaw : Stmt := topS 22
theorem scLaw : FnScope ["script", "state", "d", "p", "root", "square", "top", "q", "menu", "seen", "parts", "at", "k", "part", "after", "first", "told", "due"] ["script"] (defScope sLaw) := ⟨rfl, rfl, rfl, by decide +kernel, rfl, by decide +kernel, by decide +kernel⟩

/-! ### a caught error of an own class, with its dict -/
/-- what the class D says of its instances -/
structure ErrC (K : PySem.W.Frag) (D : Addr) : Prop where
  hc : (PySem.W.clsIn K D).isSome = true
  hg : PySem.W.findIn K (.ref D) "__getattribute__" = some (some (.builtin "BaseException.__getattribute__"))
  hk : PySem.W.findIn K (.ref D) "__getattr__" = some none
  hs : PySem.W.subIn K (.ref D) (.type "BaseException") = some true
  hd : PySem.W.hasDictIn K D = true
  ha : PySem.W.findIn K (.ref D) "__class__" = some (some (.builtin "object.__class__"))
  hn : PySem.W.specialIn K (.builtin "object.__class__") "__get__" = some (some (.builtin "getset_descriptor.__get__"))
  ht : PySem.W.takesIn K (.builtin "object.__class__") = some true
  hm : PySem.W.mroIn K D (.type "object") = some true
  hw : PySem.W.findIn K (.ref D) "what" = some none
/-- isinstance(e, c), e the error that the suite holds at a (its class cls, its dict d) -/
def rIsW (K : PySem.W.Frag) (a : Addr) (cls : Value) (d : Option Addr) : List V → Hp → VK → Prop := fun xs H Q => ∃ (c : V) (cv : Value) (b : Bool) (D dd : Addr) (fs : List (Str × V)), xs = [.ref a, c] ∧ ErrC K D ∧ cls = .ref D ∧ d = some dd ∧ (∀ u, RelV c u → u = cv) ∧ H dd = some (.xd fs) ∧ PySem.W.kitOne K (.ref D) cv = some b ∧ Q (.bl b) H
theorem inst_at {X : Cx} {pins : List (Addr × Obj)} {σ : L2.St} {H : Hp} {s : Shared} {a D d : Addr} {oe : Obj} {pn : List (Addr × Obj)} {fs : List (Str × V)} (hz : Zc (.ref D) (some d) oe) (hf : ∃ vs, oe.data = .fields vs) (I : Inv (X.suite a ((a, oe) :: pn)) pins σ H s) (hd : H d = some (.xd fs)) :
    ∃ od, PySem.W.InstAt s.heap a oe D (some od) := by
  obtain ⟨hget, _⟩ := I.pin (a, oe) (List.mem_append.mpr (.inl List.mem_cons_self))
  obtain ⟨vs, hv⟩ := hf
  have hx : ObjOk X.prog X.w H s.heap d (.xd fs) := I.hok d _ hd
  obtain ⟨mA, hns, _⟩ := hx
  obtain ⟨od, ho, _⟩ := lookIn_ns hns
  exact ⟨od, hget, hz.1, by unfold PySem.W.notCls; rw [hv] <;> rfl, by rw [hz.2]; exact ho⟩
theorem call_isW {X : Cx} {a : Addr} {cls : Value} {d : Option Addr} {oe : Obj} {pn : List (Addr × Obj)} (hz : Zc cls d oe) (hf : ∃ vs, oe.data = .fields vs) : CallR (X.suite a ((a, oe) :: pn)) (.builtin "isinstance") (rIsW X.K a cls d) := by
  intro pins s σ H xs us Q I r h
  obtain ⟨c, cv, b, D, dd, fs, rfl, C, rfl, rfl, hcv, hd, e, q⟩ := h
  cases r with
  | cons rx rr =>
    cases rr with
    | cons rt rr =>
      cases rr
      cases rx
      have ec := hcv _ rt
      subst ec
      obtain ⟨od, J⟩ := inst_at hz hf I hd
      exact PySem.W.kia_one (PySem.W.kitx_exc C.hc C.hg C.hk C.hs C.ha C.hn C.ht C.hm) I.kIn J e (fun z => nomatch z) fun tk => ⟨.bl b, H, I.kept (t' := tk) fun _ _ z => z, rfl, q⟩
/-- e.what -/
def tWhat (K : PySem.W.Frag) (a : Addr) (cls : Value) (d : Option Addr) (te : TE) : TE := fun σ H Q => te σ H fun x H1 => x = .ref a ∧ ∃ (C dd : Addr) (v : V), ErrC K C ∧ cls = .ref C ∧ d = some dd ∧ H1 dd = some (.xd [(("what" : Str), v)]) ∧ Q v H1
theorem pe_what {X : Cx} {a : Addr} {oe : Obj} {cls : Value} {d : Option Addr} {pn : List (Addr × Obj)} {e : Expr} {te : TE} {pos : Pos} (hz : Zc cls d oe) (hf : ∃ vs, oe.data = .fields vs) (he : PE (X.suite a ((a, oe) :: pn)) e te)
    (hb : attributeBase e "what" X.env (eval e X.env) = eval e X.env := by rfl) :
    PE (X.suite a ((a, oe) :: pn)) (.Attribute e "what" pos) (tWhat X.K a cls d te) := by
  refine ⟨fun pins s σ H Q I h => ?_⟩
  refine attr_of hb (thn (he.run pins s σ H _ I h) fun u s1 hh => ?_)
  obtain ⟨x, H1, I1, rx, ex, C, dd, v, EC, ec, ed, ea, q⟩ := hh
  subst ex
  obtain rfl : u = Value.ref a := rx
  subst ec
  subst ed
  have hx : ObjOk X.prog X.w H1 s1.heap dd (.xd [(("what" : Str), v)]) := I1.hok dd _ ea
  obtain ⟨mA, hns, hr⟩ := hx
  obtain ⟨od, ho, hl⟩ := lookIn_ns hns
  have l : List.lookup ("what" : Str) [(("what" : Str), v)] = some v := by simp [List.lookup]
  obtain ⟨u, hu, ru⟩ := RelO.some_of (v := v) (o := mA "what") (by rw [← l]; exact hr "what")
  obtain ⟨ha, _⟩ := I1.pin (a, oe) (List.mem_append_left _ List.mem_cons_self)
  obtain ⟨vs, hd⟩ := hf
  have J : PySem.W.InstAt s1.heap a oe C (some od) := ⟨ha, hz.1, by unfold PySem.W.notCls; rw [hd] <;> rfl, by rw [hz.2]; exact ho⟩
  exact HandSPX.exc_get I1.kIn J EC.hg EC.hk EC.hs (PySem.W.findObj_own EC.hd EC.hw rfl (by rw [hl, hu])) (handed_of ru) ⟨v, H1, I1.tok _, ru, q⟩

abbrev sInit : Stmt := match topS 2 with | .ClassDef _ _ _ body .. => body.getD 0 (.Pass ⟨0, 0, 0, 0⟩) | _ => .Pass ⟨0, 0, 0, 0⟩
theorem scInit : FnScope ["self", "what"] ["self", "what"] (defScope sInit) := ⟨rfl, rfl, rfl, by decide +kernel, rfl, by decide +kernel, by decide +kernel⟩

def spInit (K : PySem.W.Frag) : Sp := fun vs H Q _ => ∃ (a C : Addr) (v : V), vs = [.ref a, v] ∧ OexC K C ∧ PySem.W.findIn K (.ref C) "what" = some none ∧ H a = some (exo a C none) ∧
  ∀ dx, H dx = none → dx ≠ a → Q .non (upd (upd H dx (exd dx [(("what" : Str), v)])) a (exo a C (some dx)))
theorem okInit {P : Program} {w : World} {K : PySem.W.Frag} {mg : Str → Option Value} {base : Heap} {fI : Addr} {fdI : FuncData} (F : FunD K "__init__" "ConicError.__init__" (defArgs sInit) (defBody sInit) (defScope sInit) [.non] [] fI fdI) : FnOk P w K mg base CX0 1 fI fdI ["self", "what"] (spInit K) := by
  refine F.ok scInit (fun vs H Q E h => ?_) (fun cdv A outer s H vs Q E hr h => ?_)
  · obtain ⟨a, C, v, rfl, _⟩ := h
    rfl
  · obtain ⟨a, C, v, rfl, T, hw, ha, q⟩ := h
    refine ⟨_, pss_one (ps_ost (pv 0) (pv 1)), ?_⟩
    exact ⟨_, rfl, _, rfl, a, C, rfl, T, hw, .inl ⟨ha, fun dx n ne => q dx n ne⟩⟩

structure Txt (K : PySem.W.Frag) (mg : Str → Option Value) (fa : Nat → Addr) (fd : Nat → FuncData) : Prop where
  F_floor_root : Fun K "floor_root" "floor_root" sFloorRoot (fa 0) (fd 0)
  B_floor_root : Binds K (fd 0) ["n"] []
  G_floor_root : mg "floor_root" = some (.ref (fa 0))
  F_is_square : Fun K "is_square" "is_square" sIsSquare (fa 1) (fd 1)
  B_is_square : Binds K (fd 1) ["n"] []
  G_is_square : mg "is_square" = some (.ref (fa 1))
  F_expand : Fun K "expand" "expand" sExpand (fa 2) (fd 2)
  B_expand : Binds K (fd 2) ["p", "q", "d"] []
  G_expand : mg "expand" = some (.ref (fa 2))
  F__part_of : Fun K "_part_of" "_part_of" sPartOf (fa 3) (fd 3)
  B__part_of : Binds K (fd 3) ["p", "q", "root"] []
  G__part_of : mg "_part_of" = some (.ref (fa 3))
  F_part_at : Fun K "part_at" "part_at" sPartAt (fa 4) (fd 4)
  B_part_at : Binds K (fd 4) ["expansion", "index"] []
  G_part_at : mg "part_at" = some (.ref (fa 4))
  F__law_cell : Fun K "_law_cell" "_law_cell" sLawCell (fa 5) (fd 5)
  B__law_cell : Binds K (fd 5) ["script", "k"] []
  G__law_cell : mg "_law_cell" = some (.ref (fa 5))
  F__law_numbers : Fun K "_law_numbers" "_law_numbers" sLawNumbers (fa 6) (fd 6)
  B__law_numbers : Binds K (fd 6) ["cell", "many"] []
  G__law_numbers : mg "_law_numbers" = some (.ref (fa 6))
  F__law_state : Fun K "_law_state" "_law_state" sLawState (fa 7) (fd 7)
  B__law_state : Binds K (fd 7) ["script"] []
  G__law_state : mg "_law_state" = some (.ref (fa 7))
  F__law_next : Fun K "_law_next" "_law_next" sLawNext (fa 8) (fd 8)
  B__law_next : Binds K (fd 8) ["state", "many"] []
  G__law_next : mg "_law_next" = some (.ref (fa 8))
  F__law_wide : Fun K "_law_wide" "_law_wide" sLawWide (fa 9) (fd 9)
  B__law_wide : Binds K (fd 9) ["state", "many"] []
  G__law_wide : mg "_law_wide" = some (.ref (fa 9))
  F__law_root : Fun K "_law_root" "_law_root" sLawRoot (fa 10) (fd 10)
  B__law_root : Binds K (fd 10) ["n"] []
  G__law_root : mg "_law_root" = some (.ref (fa 10))
  F__law_is_at_most : Fun K "_law_is_at_most" "_law_is_at_most" sLawIsAtMost (fa 11) (fd 11)
  B__law_is_at_most : Binds K (fd 11) ["n", "p", "q", "d"] []
  G__law_is_at_most : mg "_law_is_at_most" = some (.ref (fa 11))
  F__law_part : Fun K "_law_part" "_law_part" sLawPart (fa 12) (fd 12)
  B__law_part : Binds K (fd 12) ["p", "q", "d"] []
  G__law_part : mg "_law_part" = some (.ref (fa 12))
  F__law_refused : Fun K "_law_refused" "_law_refused" sLawRefused (fa 13) (fd 13)
  B__law_refused : Binds K (fd 13) ["p", "q", "d"] []
  G__law_refused : mg "_law_refused" = some (.ref (fa 13))
  F_law : Fun K "law" "law" sLaw (fa 14) (fd 14)
  B_law : Binds K (fd 14) ["script"] []
  G_law : mg "law" = some (.ref (fa 14))
  m_abs : mg "abs" = none
  m_int : mg "int" = none
  m_isinstance : mg "isinstance" = none
  m_len : mg "len" = none
  m_min : mg "min" = none
  m_range : mg "range" = none
  m_tuple : mg "tuple" = none
  g_isqrt : mg "isqrt" = some (.builtin "math.isqrt")
  g_ConicError : mg "ConicError" = some (.ref (fa 15))
  g_BadText : mg "BadText" = some (.ref (fa 16))
  g_BadForm : mg "BadForm" = some (.ref (fa 17))
  X_oex : OexC K (fa 17)
  X_err : ErrC K (fa 17)
  X_in : PySem.W.findIn K (.ref (fa 17)) "__init__" = some (some (.ref (fa 18)))
  X_ty : PySem.W.typeIn K (.ref (fa 18)) = some (.type "function")
  X_fn : FunD K "__init__" "ConicError.__init__" (defArgs sInit) (defBody sInit) (defScope sInit) [.non] [] (fa 18) (fd 18)
  X_b : Binds K (fd 18) ["self", "what"] []
  X_ex : PySem.W.exmOne K (.ref (fa 17)) (.ref (fa 15)) = some true
  X_k1 : PySem.W.kitOne K (.ref (fa 17)) (.ref (fa 17)) = some true
  X_k2 : PySem.W.kitOne K (.ref (fa 17)) (.ref (fa 16)) = some false

/-! ### heaps, draws -/
theorem same_upd {H : Hp} {p : Addr} {o : HO} (h : H p = none) : Same H (upd H p o) := fun b x e => by
  rw [upd_ne (ne_of_none e h)]
  exact e
theorem same_mut {H0 H : Hp} {p : Addr} {o : HO} (s : Same H0 H) (h : H0 p = none) : Same H0 (upd H p o) := fun b x e => by
  rw [upd_ne (ne_of_none e h)]
  exact s _ _ e
theorem same_off {H H' : Hp} {p : Addr} {o : HO} {q : Addr} (f : ∀ b, b ≠ p → H' b = H b) (n : q ≠ p) (h : H q = some o) : H' q = some o := by
  rw [f q n]
  exact h
/-- the state of the draws: the list at p, its numbers at a, at most N draws so far -/
def Dw (H : Hp) (p a : Addr) (N : Nat) : Prop := ∃ (m : Nat) (ns : List Int), m ≤ N ∧ a ≠ p ∧ H p = some (.lst [.ref a, .int (m : Int)]) ∧ H a = some (.lst (ns.map V.int)) ∧ ns.length = 120 ∧ ∀ n ∈ ns, 0 ≤ n ∧ n < 1000
theorem Dw.same {H H' : Hp} {p a : Addr} {N : Nat} (s : Same H H') (d : Dw H p a N) : Dw H' p a N := by
  obtain ⟨m, ns, h1, h2, h3, h4, h5⟩ := d
  exact ⟨m, ns, h1, h2, s _ _ h3, s _ _ h4, h5⟩
theorem Dw.mono {H : Hp} {p a : Addr} {N M : Nat} (d : Dw H p a N) (h : N ≤ M) : Dw H p a M := by
  obtain ⟨m, ns, h1, h2⟩ := d
  exact ⟨m, ns, Nat.le_trans h1 h, h2⟩
theorem Dw.new {H : Hp} {p a q : Addr} {o : HO} {N : Nat} (d : Dw H p a N) (h : H q = none) : Dw (upd H q o) p a N := d.same (same_upd h)
theorem Dw.ne {H : Hp} {p a q : Addr} {N : Nat} (d : Dw H p a N) (h : H q = none) : q ≠ p ∧ q ≠ a := by
  obtain ⟨m, ns, h1, h2, h3, h4, h5⟩ := d
  exact ⟨(ne_of_none h3 h).symm, (ne_of_none h4 h).symm⟩
theorem Dw.mut {H : Hp} {p a q : Addr} {o : HO} {N : Nat} (d : Dw H p a N) (hp : q ≠ p) (ha : q ≠ a) : Dw (upd H q o) p a N := by
  obtain ⟨m, ns, h1, h2, h3, h4, h5⟩ := d
  exact ⟨m, ns, h1, h2, by rw [upd_ne hp.symm]; exact h3, by rw [upd_ne ha.symm]; exact h4, h5⟩
theorem at_mem {α : Type} {xs : List α} {r : Int} (h0 : 0 ≤ r) (h1 : r < xs.length) : ∃ v, v ∈ xs ∧ atI xs r = some v := by
  obtain ⟨j, rfl⟩ := Int.eq_ofNat_of_zero_le h0
  have hj : j < xs.length := by omega
  exact ⟨xs[j], List.getElem_mem hj, atI_nat (List.getElem?_eq_getElem hj)⟩
theorem at_int {ns : List Int} {r : Int} (h0 : 0 ≤ r) (h1 : r < ns.length) : ∃ n ∈ ns, atI (ns.map V.int) r = some (.int n) := by
  obtain ⟨v, hv, e⟩ := at_mem (xs := ns.map V.int) h0 (by rw [List.length_map]; exact h1)
  obtain ⟨n, hn, rfl⟩ := List.mem_map.mp hv
  exact ⟨n, hn, e⟩
theorem pow_ok {i j : Int} (h : 0 ≤ j ∧ j ≤ 1000000 ∧ i.natAbs < 2 ^ 64) : CPow i j := h
theorem wayF {c A B : Prop} [Decidable c] (h : ¬ c) (b : B) : if decide c = true then A else B := by
  rw [if_neg (fun z => h (of_decide_eq_true z))]
  exact b
theorem wayT {c A B : Prop} [Decidable c] (h : c) (a : A) : if decide c = true then A else B := by
  rw [if_pos (decide_eq_true h)]
  exact a
theorem wayNF {c A B : Prop} [Decidable c] (h : c) (b : B) : if (!decide c) = true then A else B := by
  rw [decide_eq_true h]
  exact iteF b
theorem wayNT {c A B : Prop} [Decidable c] (h : ¬ c) (a : A) : if (!decide c) = true then A else B := by
  rw [decide_eq_false h]
  exact iteT a
theorem way2 {c A B : Prop} [Decidable c] (h1 : c → A) (h2 : ¬ c → B) : if decide c = true then A else B := by
  by_cases h : c
  · exact wayT h (h1 h)
  · exact wayF h (h2 h)
theorem wayN2 {c A B : Prop} [Decidable c] (h1 : ¬ c → A) (h2 : c → B) : if (!decide c) = true then A else B := by
  by_cases h : c
  · exact wayNF h (h2 h)
  · exact wayNT h (h1 h)
theorem abs_int (i : Int) : (if i < 0 then -i else i) = (i.natAbs : Int) := by
  split <;> omega
theorem small200 {n : Nat} (h : n ≤ 1000) : n ≤ sizeLine := Nat.le_of_lt (small1000 h)
/-! ### data: == of lists and tuples -/
theorem dp_ints {K : PySem.W.Frag} {H : Hp} : ∀ ns : List Int, DpAll K H (ns.map V.int) (ns.map PyData.int)
  | [] => .nil
  | n :: ns => .cons (.int n) (dp_ints ns)
theorem lay_ints : ∀ ns : List Int, PyData.canLayAll0 (ns.map PyData.int) = true
  | [] => rfl
  | n :: ns => by
    rw [List.map_cons, PyData.canLayAll0, lay_ints ns]
    rfl
theorem depth_ints : ∀ ns : List Int, PyData.depthAll (ns.map PyData.int) = 0
  | [] => rfl
  | n :: ns => by
    rw [List.map_cons, PyData.depthAll, depth_ints ns]
    rfl
theorem shaped_ints (ns : List Int) : SeqAt.shaped (.list (ns.map PyData.int)) = true := by
  show (PyData.canLay0 (.list (ns.map PyData.int)) && decide (PyData.depth (.list (ns.map PyData.int)) ≤ 64)) = true
  rw [Bool.and_eq_true]
  refine ⟨by rw [PyData.canLay0]; exact lay_ints ns, decide_eq_true ?_⟩
  rw [PyData.depth, depth_ints]
  decide
theorem shaped_intsT (ns : List Int) : SeqAt.shaped (.tuple (ns.map PyData.int)) = true := by
  show (PyData.canLay0 (.tuple (ns.map PyData.int)) && decide (PyData.depth (.tuple (ns.map PyData.int)) ≤ 64)) = true
  rw [Bool.and_eq_true]
  refine ⟨by rw [PyData.canLay0]; exact lay_ints ns, decide_eq_true ?_⟩
  rw [PyData.depth, depth_ints]
  decide
theorem eqD_same {K : PySem.W.Frag} {H : Hp} {x y : V} {Q : VK} {d : PyData} (hx : Dp K H x d) (hy : Dp K H y d) (sh : SeqAt.shaped d = true) (q : Q (.bl true) H) : rEqD K x y H Q :=
  ⟨d, d, hx, hy, sh, sh, by rw [SeqAt.eqv_refl d (SeqAt.canLay_of_shaped sh)]; exact q⟩
theorem neD_same {K : PySem.W.Frag} {H : Hp} {x y : V} {Q : VK} {d : PyData} (hx : Dp K H x d) (hy : Dp K H y d) (sh : SeqAt.shaped d = true) (q : Q (.bl false) H) : rNeD K x y H Q :=
  ⟨d, d, hx, hy, sh, sh, by rw [SeqAt.eqv_refl d (SeqAt.canLay_of_shaped sh)]; exact q⟩
/-! ### slices -/
theorem cut_to (ns : List Int) (k : Nat) : cutV (ns.map V.int) none (some (k : Int)) = (ns.take k).map V.int := by
  unfold cutV
  rw [HT.sIx_none, HT.sIx_nat, List.drop_zero, List.map_take, Nat.sub_zero, List.length_map]
  by_cases h : k ≤ ns.length
  · rw [Nat.min_eq_left h]
  · rw [Nat.min_eq_right (by omega), List.take_of_length_le (by rw [List.length_map]; omega), List.take_of_length_le (by rw [List.length_map]; omega)]
theorem cut_from (xs : List V) (k : Nat) : cutV xs (some (k : Int)) none = xs.drop k := by
  unfold cutV
  rw [HT.sIx_none, HT.sIx_nat]
  by_cases h : k ≤ xs.length
  · rw [Nat.min_eq_left h, List.take_of_length_le (by rw [List.length_drop]; omega)]
  · rw [Nat.min_eq_right (by omega), List.drop_of_length_le (by omega), List.drop_of_length_le (by omega)]
    exact List.take_nil
theorem isiF {K : PySem.W.Frag} {H : Hp} {i : Int} {Q : VK} (q : Q (.bl false) H) : rIsi K [.int i, .ty "bool"] H Q := ⟨_, _, _, _, false, rfl, ClsV.ty _, TyX.base (.int i), kit_ty (by decide +kernel), q⟩
theorem isiT {K : PySem.W.Frag} {H : Hp} {b : Bool} {Q : VK} (q : Q (.bl true) H) : rIsi K [.bl b, .ty "bool"] H Q := ⟨_, _, _, _, true, rfl, ClsV.ty _, TyX.base (.bl b), kit_ty (by decide +kernel), q⟩
theorem isiTup {K : PySem.W.Frag} {H : Hp} {a : Addr} {xs : List V} {Q : VK} (h : H a = some (.tup xs)) (q : Q (.bl true) H) : rIsi K [.ref a, .ty "tuple"] H Q := ⟨_, _, _, _, true, rfl, ClsV.ty _, TyX.base (.tup h), kit_ty (by decide +kernel), q⟩
theorem isiLst {K : PySem.W.Frag} {H : Hp} {a : Addr} {xs : List V} {Q : VK} (h : H a = some (.lst xs)) (q : Q (.bl true) H) : rIsi K [.ref a, .ty "list"] H Q := ⟨_, _, _, _, true, rfl, ClsV.ty _, TyX.base (.lst h), kit_ty (by decide +kernel), q⟩
/-! ### rules with the written part named -/
section
variable {X : Cx}
def rLenQ (K : PySem.W.Frag) : List V → Hp → VK → Prop := fun xs H Q => ∃ p ys, xs = [.ref p] ∧ (SqL K H p ys ∨ SqT K H p ys) ∧ Q (.int ys.length) H
def rListQ (K : PySem.W.Frag) : List V → Hp → VK → Prop := fun xs H Q => ∃ p ys, xs = [.ref p] ∧ (SqL K H p ys ∨ SqT K H p ys) ∧ ∀ l, H l = none → Q (.ref l) (upd H l (.lst ys))
def rTupQ (K : PySem.W.Frag) : List V → Hp → VK → Prop := fun xs H Q => ∃ p ys, xs = [.ref p] ∧ ((SqL K H p ys ∧ ∀ l, H l = none → Q (.ref l) (upd H l (.tup ys))) ∨ (SqT K H p ys ∧ Q (.ref p) H))
theorem ixL (K : PySem.W.Frag) (h : X.K = K := by rfl) : IxR X (rIxL K) := by subst h; exact ix_list
theorem ixT (K : PySem.W.Frag) (h : X.K = K := by rfl) : IxR X (rIxT K) := by subst h; exact ix_tup
theorem slL (K : PySem.W.Frag) (h : X.K = K := by rfl) : SlR X (rSlL K) := by subst h; exact sl_list
theorem slT (K : PySem.W.Frag) (h : X.K = K := by rfl) : SlR X (rSlT K) := by subst h; exact sl_tup
theorem lenQ (K : PySem.W.Frag) (h : X.K = K := by rfl) : CallR X (.builtin "len") (rLenQ K) := by subst h; exact call_len_seq
theorem listQ (K : PySem.W.Frag) (h : X.K = K := by rfl) : CallR X (.type "list") (rListQ K) := by subst h; exact call_list_of
theorem tupQ (K : PySem.W.Frag) (h : X.K = K := by rfl) : CallR X (.type "tuple") (rTupQ K) := by subst h; exact call_tuple_of
theorem isiQ (K : PySem.W.Frag) (h : X.K = K := by rfl) : CallR X (.builtin "isinstance") (rIsi K) := by subst h; exact call_isi
theorem eqDQ (K : PySem.W.Frag) (hu : X.A.units + 64 < cLine) (h : X.K = K := by rfl) : OpR X (compareOp .Eq) (rEqD K) := by subst h; exact op_eqD hu
theorem neDQ (K : PySem.W.Frag) (hu : X.A.units + 64 < cLine) (h : X.K = K := by rfl) : OpR X (compareOp .NotEq) (rNeD K) := by subst h; exact op_neD hu
theorem piL (K : PySem.W.Frag) {tg l : Expr} {tl : TE} (hl : PE X l tl) (h : X.K = K := by rfl) : PI X tg l (iList K tl) := by subst h; exact pi_list hl
theorem piT (K : PySem.W.Frag) {tg l : Expr} {tl : TE} (hl : PE X l tl) (h : X.K = K := by rfl) : PI X tg l (iTup K tl) := by subst h; exact pi_tup hl
theorem inQ (K : PySem.W.Frag) (h : X.K = K := by rfl) : OpR X (compareOp .In) (rIn K false) := by subst h; exact op_in_seq
theorem notInQ (K : PySem.W.Frag) (h : X.K = K := by rfl) : OpR X (compareOp .NotIn) (rIn K true) := by subst h; exact op_notIn_seq
end
/-! ### great numbers -/
section
variable {X : Cx}
/-- // by any divisor below 2 ^ 9000 -/
def CDivX (_ j : Int) : Prop := j ≠ 0 ∧ j.natAbs < 2 ^ 9000
theorem op_fdivX : OpR X (binaryOp .FloorDiv) (rI CDivX fun i j => .int (i.fdiv j)) := opI fun i j _ _ _ _ _ hc q =>
  floordiv_int hc.1 q (.inl (PyProof.noPylong_of_log2 (PySem.Flt.log2_lt_of (by decide) hc.2)))
end
theorem pow_up {n a b : Nat} (h : n < 2 ^ a) (hab : a ≤ b) : n < 2 ^ b := Nat.lt_of_lt_of_le h (Nat.pow_le_pow_right (by decide) hab)

/-! ### bounds by powers of two -/
def Bd (n : Nat) (x : Int) : Prop := x.natAbs < 2 ^ n
theorem Bd.mono {n m : Nat} {x : Int} (h : Bd n x) (l : n ≤ m) : Bd m x := Nat.lt_of_lt_of_le h (Nat.pow_le_pow_right (by decide) l)
theorem Bd.mul {n m : Nat} {x y : Int} (h1 : Bd n x) (h2 : Bd m y) : Bd (n + m) (x * y) := wide_lt h1 h2
theorem Bd.add {n m : Nat} {x y : Int} (h1 : Bd n x) (h2 : Bd m y) : Bd (max n m + 1) (x + y) := by
  have a1 := h1.mono (Nat.le_max_left n m)
  have a2 := h2.mono (Nat.le_max_right n m)
  unfold Bd at *
  rw [Nat.pow_succ]
  omega
theorem Bd.neg {n : Nat} {x : Int} (h : Bd n x) : Bd n (-x) := by
  unfold Bd at *
  rw [Int.natAbs_neg]
  exact h
theorem Bd.sub {n m : Nat} {x y : Int} (h1 : Bd n x) (h2 : Bd m y) : Bd (max n m + 1) (x - y) := by
  have h := h1.add h2.neg
  rw [← Int.sub_eq_add_neg] at h
  exact h
theorem Bd.l8 {x : Int} (h : (x.natAbs < 2 ^ 8) = True) : Bd 8 x := of_eq_true h
theorem Bd.lit {x : Int} (h : (x.natAbs < 2 ^ 64) = True) : Bd 64 x := of_eq_true h
theorem Bd.om {x : Int} (h : x.natAbs < 1152921504606846976) : Bd 60 x := h
theorem Bd.fdiv {n : Nat} {x y : Int} (h : Bd n x) : Bd n (x.fdiv y) := by
  unfold Bd at *
  exact Nat.lt_of_le_of_lt (Int.natAbs_fdiv_le_natAbs x y) h
theorem Bd.mod {n : Nat} {x y : Int} (h : Bd n y) (hy : y ≠ 0) : Bd n (x % y) := by
  unfold Bd at *
  have h0 := Int.emod_nonneg x hy
  have h1 := Int.emod_lt x hy
  omega
theorem Bd.abs {n : Nat} {x : Int} (h : Bd n x) : Bd n (x.natAbs : Int) := by
  unfold Bd at *
  rw [Int.natAbs_natCast]
  exact h
theorem Bd.div {n : Nat} {x y : Int} (h : Bd n x) : Bd n (x / y) := by
  unfold Bd at *
  exact Nat.lt_of_le_of_lt (Int.natAbs_ediv_le_natAbs x y) h
theorem bdm {n m : Nat} {x : Int} (h : Bd n x) (l : Nat.ble n m = true) : Bd m x := h.mono (Nat.le_of_ble_eq_true l)
theorem Bd.of {n : Nat} {x : Int} {m : Nat} (h : x.natAbs ≤ m) (l : m < 2 ^ n) : Bd n x := Nat.lt_of_le_of_lt h l
theorem Bd.mulW {n m : Nat} {x y : Int} (h1 : Bd n x) (h2 : Bd m y) (l : n + m ≤ 900000) : CMulW x y :=
  wide_mul (a := n + 1) (b := m + 1) (h1.mono (Nat.le_succ n)) (h2.mono (Nat.le_succ m)) (Nat.succ_pos n) (Nat.succ_pos m) (by omega)
theorem Bd.x4 {n m : Nat} {x y : Int} (h1 : Bd n x) (l : n ≤ m) (h : y = x) : Bd m y := h ▸ h1.mono l
/-! ### heaps -/
theorem same_seqT {K : PySem.W.Frag} {H H' : Hp} {a : Addr} {xs : List V} (e : Same H H') (h : SqT K H a xs) : SqT K H' a xs := by
  rcases h with (h | ⟨o, h⟩) | h
  · exact .inl (.inl (e _ _ h))
  · exact .inl (.inr ⟨o, e _ _ h⟩)
  · exact .inr h
/-- tuples stay -/
def KT (K : PySem.W.Frag) (H H' : Hp) : Prop := ∀ a xs, SqT K H a xs → SqT K H' a xs
/-- all but p stays -/
def Frm (p : Addr) (H H' : Hp) : Prop := ∀ b, b ≠ p → H' b = H b
/-- all that was tracked, but p, stays -/
def Kp (p : Addr) (H H' : Hp) : Prop := ∀ b o, b ≠ p → H b = some o → H' b = some o
theorem same_kt {K : PySem.W.Frag} {H H' : Hp} (e : Same H H') : KT K H H' := fun _ _ h => same_seqT e h
theorem same_kp {p : Addr} {H H' : Hp} (e : Same H H') : Kp p H H' := fun b o _ h => e b o h
theorem frm_kp {p : Addr} {H H' : Hp} (f : Frm p H H') : Kp p H H' := fun b o n h => (f b n).trans h
theorem Kp.refl {p : Addr} {H : Hp} : Kp p H H := fun b o _ h => h
theorem Kp.trans {p : Addr} {H H1 H2 : Hp} (a : Kp p H H1) (b : Kp p H1 H2) : Kp p H H2 := fun c o n h => b c o n (a c o n h)
theorem KT.trans {K : PySem.W.Frag} {H H1 H2 : Hp} (a : KT K H H1) (b : KT K H1 H2) : KT K H H2 := fun c xs h => b c xs (a c xs h)
theorem KT.refl {K : PySem.W.Frag} {H : Hp} : KT K H H := fun _ _ h => h
theorem kpB {p : Addr} {H H1 H' : Hp} (e : Kp p H1 H') (s : Kp p H H1) : Kp p H H' := s.trans e
theorem sameB {H H1 H' : Hp} (e : Same H1 H') (s : Same H H1) : Same H H' := s.trans e
theorem same_at {H H' : Hp} {a : Addr} {o : HO} (e : Same H H') (h : H a = some o) : H' a = some o := e _ _ h
theorem kp_at {p : Addr} {H H' : Hp} {a : Addr} {o : HO} (e : Kp p H H') (n : a ≠ p) (h : H a = some o) : H' a = some o := e _ _ n h
theorem KT.use {K : PySem.W.Frag} {H H' : Hp} {a : Addr} {xs : List V} (e : KT K H H') (h : SqT K H a xs) : SqT K H' a xs := e a xs h
theorem Kp.kt {K : PySem.W.Frag} {H H' : Hp} {p a : Addr} {N : Nat} (f : Kp p H H') (d : Dw H p a N) : KT K H H' := fun c xs h => by
  obtain ⟨m, ns, h1, h2, h3, h4⟩ := d
  rcases h with (h | ⟨o, h⟩) | h
  · refine .inl (.inl (f c _ ?_ h))
    rintro rfl
    rw [h3] at h
    cases h
  · refine .inl (.inr ⟨o, f c _ ?_ h⟩)
    rintro rfl
    rw [h3] at h
    cases h
  · exact .inr h
theorem kp_seqT {K : PySem.W.Frag} {H H' : Hp} {p a b : Addr} {N : Nat} {xs : List V} (f : Kp p H H') (d : Dw H p a N) (h : SqT K H b xs) : SqT K H' b xs := f.kt d b xs h
theorem Kp.seqL {K : PySem.W.Frag} {p : Addr} {H H' : Hp} {a : Addr} {xs : List V} (f : Kp p H H') (n : a ≠ p) (h : SqL K H a xs) : SqL K H' a xs := by
  rcases h with (h | ⟨o, h⟩) | h
  · exact .inl (.inl (f _ _ n h))
  · exact .inl (.inr ⟨o, f _ _ n h⟩)
  · exact .inr h
theorem Dw.kp0 {H : Hp} {p a q : Addr} {o : HO} (h : H q = none) : Kp p H (upd H q o) := same_kp (same_upd h)
theorem fresh_ne {H : Hp} {o p a : Addr} {N : Nat} (h : H o = none) (d : Dw H p a N) : o ≠ p := (d.ne h).1
section
variable {X : Cx}
def rAbs (_ : PySem.W.Frag) : List V → Hp → VK → Prop := fun xs H Q => ∃ i : Int, xs = [.int i] ∧ Q (.int (i.natAbs : Int)) H
def rInt (_ : PySem.W.Frag) : List V → Hp → VK → Prop := fun xs H Q => (∃ i : Int, xs = [.int i] ∧ Q (.int i) H) ∨ ∃ k : Bool, xs = [.bl k] ∧ Q (.int (if k then 1 else 0)) H
theorem absQ (K : PySem.W.Frag) : CallR X (.builtin "abs") (rAbs K) := by
  intro pins s σ H xs us Q I r h
  obtain ⟨i, e, q⟩ := h
  exact call_abs pins s σ H xs us Q I r ⟨i, e, by rw [abs_int]; exact q⟩
theorem intQ (K : PySem.W.Frag) : CallR X (.type "int") (rInt K) := call_int1
theorem minQ (K : PySem.W.Frag) (hc : X.calm = true := by rfl) (h : X.K = K := by rfl) : CallR X (.builtin "min") (rMin K) := by
  subst h
  exact cr_min hc
theorem pgT (K : PySem.W.Frag) (n : Nat) {es : List Expr} {k : Nat} {pos : Pos} {t : TGs} (hc : X.calm = true) (h : PGs X es t) (hn : (assignEach es X.env).length = n := by rfl) (hst : (assignEach es X.env).findIdx? (·.1) = none := by rfl) (hK : X.K = K := by rfl) : PG X (.Tuple es k pos) (gTup K n t) := by
  subst hK
  exact pg_tup hc h hn hst
end
namespace R
section
variable {K : PySem.W.Frag} {σ : L2.St} {H : Hp} {Q : VK} {ta tb te : TE} {v x y : V} {i j : Int}
theorem var {n : Nat} (h : σ[n]? = some (some v)) (q : Q v H) : tVar n σ H Q := ⟨v, h, q⟩
theorem con (q : Q v H) : tC v σ H Q := q
theorem op {r : R2} (h : ta σ H fun x H1 => tb σ H1 fun y H2 => r x y H2 Q) : tOp r ta tb σ H Q := h
theorem un {r : V → Hp → VK → Prop} (h : ta σ H fun x H1 => r x H1 Q) : tUn r ta σ H Q := h
theorem i0 {g : Int → Int → V} (q : Q (g i j) H) : rI0 g (.int i) (.int j) H Q := ⟨i, j, rfl, rfl, q⟩
theorem i2 {C : Int → Int → Prop} {g : Int → Int → V} (c : C i j) (q : Q (g i j) H) : rI C g (.int i) (.int j) H Q := ⟨i, j, rfl, rfl, c, q⟩
theorem u1 {g : Int → V} (q : Q (g i) H) : rU g (.int i) H Q := ⟨i, rfl, q⟩
theorem ixT {p : Addr} {xs : List V} (h : SqT K H p xs) (e : atI xs i = some v) (q : Q v H) : rIxT K (.ref p) (.int i) H Q := ⟨p, xs, i, v, rfl, rfl, h, e, q⟩
theorem ixL {p : Addr} {xs : List V} (h : SqL K H p xs) (e : atI xs i = some v) (q : Q v H) : rIxL K (.ref p) (.int i) H Q := ⟨p, xs, i, v, rfl, rfl, h, e, q⟩
theorem nil {Q : List V → Hp → Prop} (q : Q [] H) : tNil σ H Q := q
theorem cons {tr : TA} {Q : List V → Hp → Prop} (h : ta σ H fun x H1 => tr σ H1 fun xs H2 => Q (x :: xs) H2) : tCons ta tr σ H Q := h
/-- what is wanted of a new tuple, a new list -/
def NwT (H : Hp) (xs : List V) (Q : VK) : Prop := xs.length ≤ sizeLine ∧ ∀ p, H p = none → Q (.ref p) (upd H p (.tup xs))
def NwL (H : Hp) (xs : List V) (Q : VK) : Prop := xs.length ≤ sizeLine ∧ ∀ p, H p = none → Q (.ref p) (upd H p (.lst xs))
def Nw (H : Hp) (xs : List V) (Q : VK) : Prop := ∀ H' t, Same H H' → H' t = some (.tup xs) → Q (.ref t) H'
theorem nw {xs : List V} (h : ∀ H' t, Same H H' → H' t = some (.tup xs) → Q (.ref t) H') : Nw H xs Q := h
def Mt (H : Hp) (xs : List V) (Q : VK) : Prop := ∀ H' p, Same H H' → H p = none → H' p = some (.tup xs) → Q (.ref p) H'
def Ml (H : Hp) (xs : List V) (Q : VK) : Prop := ∀ H' p, Same H H' → H p = none → H' p = some (.lst xs) → Q (.ref p) H'
theorem mt {xs : List V} (h : ∀ H' p, Same H H' → H p = none → H' p = some (.tup xs) → Q (.ref p) H') : Mt H xs Q := h
theorem ml {xs : List V} (h : ∀ H' p, Same H H' → H p = none → H' p = some (.lst xs) → Q (.ref p) H') : Ml H xs Q := h
theorem tup {t : TA} (h : t σ H fun xs H1 => NwT H1 xs Q) : tTup t σ H Q := h
theorem lst {t : TA} (h : t σ H fun xs H1 => NwL H1 xs Q) : tLst t σ H Q := h
theorem nwT {xs : List V} (l : Nat.ble xs.length 1000 = true) (q : Mt H xs Q) : NwT H xs Q :=
  ⟨Nat.le_of_lt (small1000 (Nat.le_of_ble_eq_true l)), fun p n => q _ p (same_upd n) n upd_same⟩
theorem nwL {xs : List V} (l : Nat.ble xs.length 1000 = true) (q : Ml H xs Q) : NwL H xs Q :=
  ⟨Nat.le_of_lt (small1000 (Nat.le_of_ble_eq_true l)), fun p n => q _ p (same_upd n) n upd_same⟩
theorem call {sp : Sp} {dvs : List V} {E : XK} {t : TA} (h : t σ H fun vs H1 => sp (vs ++ dvs) H1 Q E) : tCall sp dvs E t σ H Q := h
theorem callB {r : List V → Hp → VK → Prop} {t : TA} (h : t σ H fun vs H1 => r vs H1 Q) : tCB r t σ H Q := h
theorem gname {n : Nat} {Q : L2.St → Hp → Prop} (h : Q (σ.set n (some v)) H) : gName n v σ H Q := h
theorem gtup {n : Nat} {t : TGs} {a : Addr} {xs : List V} {Q : L2.St → Hp → Prop} (h1 : SqT K H a xs) (h2 : xs.length = n) (h : t xs σ H Q) : gTup K n t (.ref a) σ H Q := ⟨a, xs, rfl, h1, h2, h⟩
theorem gcons {t : TG} {u : TGs} {r : List V} {Q : L2.St → Hp → Prop} (h : t v σ H fun σ' H' => u r σ' H' Q) : gCons t u (v :: r) σ H Q := ⟨v, r, rfl, h⟩
theorem gnil {Q : L2.St → Hp → Prop} (h : Q σ H) : gNil [] σ H Q := ⟨rfl, h⟩
variable {nx : L2.St → Hp → Prop} {rt : VK} {bk ct : L2.St → Hp → Prop} {t u : TS} {c : TT}
theorem seq (h : t (Ends.mk (u (Ends.mk nx rt bk ct)) rt bk ct) σ H) : tSeq t u (Ends.mk nx rt bk ct) σ H := h
theorem asg {g : TG} (h : te σ H fun x H1 => g x σ H1 nx) : tAsg te g (Ends.mk nx rt bk ct) σ H := h
theorem brk (h : bk σ H) : tBreak (Ends.mk nx rt bk ct) σ H := h
theorem cont (h : ct σ H) : tCont (Ends.mk nx rt bk ct) σ H := h
theorem ret (h : te σ H rt) : tRet te (Ends.mk nx rt bk ct) σ H := h
theorem next (h : nx σ H) : tNext (Ends.mk nx rt bk ct) σ H := h
theorem drop (h : te σ H fun _ H1 => nx σ H1) : tDrop te (Ends.mk nx rt bk ct) σ H := h
theorem par {i j : Nat} {ta : TA} (h : ta σ H fun vs H1 => ∃ v w, vs = [v, w] ∧ nx ((σ.set i (some v)).set j (some w)) H1) : tPar i j ta (Ends.mk nx rt bk ct) σ H := h
theorem par2 {P : V → V → Prop} (h : P x y) : ∃ v w, [x, y] = [v, w] ∧ P v w := ⟨x, y, rfl, h⟩
theorem ifs (h : c σ H fun b H1 => if b = true then t (Ends.mk nx rt bk ct) σ H1 else u (Ends.mk nx rt bk ct) σ H1) : tIfS c t u (Ends.mk nx rt bk ct) σ H := h
theorem tif (h : c σ H fun b H1 => if b = true then ta σ H1 Q else tb σ H1 Q) : tIf c ta tb σ H Q := h
theorem test {Q : Bool → Hp → Prop} (h : te σ H fun x H' => ∃ k, x = .bl k ∧ Q k H') : tTest te σ H Q := h
theorem tb' {Q : Bool → Hp → Prop} (h : te σ H fun x H' => ∃ k, x = .bl k ∧ Q k H') : tB te σ H Q := h
theorem isbl {b : Bool} {P : Bool → Prop} (h : P b) : ∃ k, V.bl b = .bl k ∧ P k := ⟨b, rfl, h⟩
theorem cmp {p : Int → Int → Bool} (h : t2I ta tb (fun i j H2 => Q (.bl (p i j)) H2) σ H) : tCmp p ta tb σ H Q := h
theorem t2i {k : Int → Int → Hp → Prop} (h : ta σ H fun x H1 => tb σ H1 fun y H2 => ∃ i j, x = .int i ∧ y = .int j ∧ k i j H2) : t2I ta tb k σ H := h
theorem intp {k : Int → Int → Prop} (h : k i j) : ∃ a b : Int, V.int i = .int a ∧ V.int j = .int b ∧ k a b := ⟨i, j, rfl, rfl, h⟩
theorem cut {Mid : L2.St → Hp → Prop} (h1 : t (Ends.mk Mid rt bk ct) σ H) (h2 : ∀ σ' H', Mid σ' H' → u (Ends.mk nx rt bk ct) σ' H') : C8.tCut t u (Ends.mk nx rt bk ct) σ H := ⟨Mid, h1, h2⟩
variable {d : TT}
theorem and {Q : Bool → Hp → Prop} (h : c σ H fun k H1 => if k = true then d σ H1 Q else Q false H1) : tAnd c d σ H Q := h
theorem or {Q : Bool → Hp → Prop} (h : c σ H fun k H1 => if k = true then Q true H1 else d σ H1 Q) : tOr c d σ H Q := h
theorem not {Q : Bool → Hp → Prop} (h : c σ H fun k H1 => Q (!k) H1) : tNot c σ H Q := h
theorem andV (h : ta σ H fun x H1 => ∃ c, x = .bl c ∧ if c = true then tb σ H1 Q else Q (.bl false) H1) : tAndV ta tb σ H Q := h
theorem orV (h : ta σ H fun x H1 => ∃ c, x = .bl c ∧ if c = true then Q (.bl true) H1 else tb σ H1 Q) : tOrV ta tb σ H Q := h
theorem notV (h : ta σ H fun x H1 => ∃ c, x = .bl c ∧ Q (.bl (!c)) H1) : tNotV ta σ H Q := h
theorem chain {r r' : R2} {tc : TE} (h : ta σ H fun x H1 => tb σ H1 fun y H2 => r x y H2 fun z H3 => ∃ k, z = .bl k ∧ (if k = true then tc σ H3 fun w' H4 => r' y w' H4 Q else Q (.bl false) H3)) : tChain r r' ta tb tc σ H Q := h
theorem tupL {p : Addr} {ys : List V} (h : SqL K H p ys) (q : Mt H ys Q) : rTupQ K [.ref p] H Q := ⟨p, ys, rfl, .inl ⟨h, fun l n => q _ l (same_upd n) n upd_same⟩⟩
theorem lstL {p : Addr} {ys : List V} (h : SqL K H p ys) (q : Ml H ys Q) : rListQ K [.ref p] H Q := ⟨p, ys, rfl, .inl h, fun l n => q _ l (same_upd n) n upd_same⟩
theorem cat {l b : Addr} {xs zs : List V} (h1 : H l = some (.lst xs)) (h2 : H b = some (.lst zs)) (z : Nat.ble (xs.length + zs.length) 1000 = true) (q : Ml H (xs ++ zs) Q) : rCat (.ref l) (.ref b) H Q :=
  ⟨l, b, xs, zs, rfl, rfl, h1, h2, Nat.le_of_lt (small1000 (Nat.le_of_ble_eq_true z)), fun p n => q _ p (same_upd n) n upd_same⟩
theorem sl {r : V → Option Int → Option Int → Hp → VK → Prop} {tl th : TO} (h : te σ H fun x H1 => tl σ H1 fun l H2 => th σ H2 fun u H3 => r x l u H3 Q) : tSl r te tl th σ H Q := h
theorem noPart {Q : Option Int → Hp → Prop} (h : Q none H) : tNoPart σ H Q := h
theorem part {Q : Option Int → Hp → Prop} (h : te σ H fun x H1 => ∃ i, x = .int i ∧ Q (some i) H1) : tPart te σ H Q := h
theorem isInt {P : Int → Prop} (h : P i) : ∃ k, V.int i = .int k ∧ P k := ⟨i, rfl, h⟩
theorem slL {a : Addr} {xs : List V} {lo hi : Option Int} (h : SqL K H a xs) (q : Ml H (cutV xs lo hi) Q) : rSlL K (.ref a) lo hi H Q := ⟨a, xs, rfl, h, fun p n => q _ p (same_upd n) n upd_same⟩
theorem absI (q : Q (.int (i.natAbs : Int)) H) : rAbs K [.int i] H Q := ⟨i, rfl, q⟩
theorem intI (q : Q (.int i) H) : rInt K [.int i] H Q := .inl ⟨i, rfl, q⟩
theorem intB {b : Bool} (q : Q (.int (if b then 1 else 0)) H) : rInt K [.bl b] H Q := .inr ⟨b, rfl, q⟩
theorem lenT {p : Addr} {ys : List V} (h : SqT K H p ys) (q : Q (.int (ys.length : Int)) H) : rLenQ K [.ref p] H Q := ⟨p, ys, rfl, .inr h, q⟩
theorem lenL {p : Addr} {ys : List V} (h : SqL K H p ys) (q : Q (.int (ys.length : Int)) H) : rLenQ K [.ref p] H Q := ⟨p, ys, rfl, .inl h, q⟩
theorem eqS {a b : Str} (q : Q (.bl (decide (V.str a = V.str b))) H) : rEq (.str a) (.str b) H Q := ⟨rfl, q⟩
theorem eqBl {a b : Bool} (q : Q (.bl (decide (V.bl a = V.bl b))) H) : rEq (.bl a) (.bl b) H Q := ⟨rfl, q⟩
theorem neBl {a b : Bool} (q : Q (.bl (!decide (V.bl a = V.bl b))) H) : rNe (.bl a) (.bl b) H Q := ⟨rfl, q⟩
theorem isiTupS {a : Addr} {xs : List V} (h : SqT K H a xs) (q : Q (.bl true) H) : rIsi K [.ref a, .ty "tuple"] H Q := by
  rcases h with (h | ⟨o, h⟩) | ⟨o, its, n, h1, h2, _⟩
  · exact Wc.isiTup h q
  · exact ⟨_, _, _, _, true, rfl, ClsV.ty _, TyX.fTuple h, kit_ty (by decide +kernel), q⟩
  · exact ⟨_, _, _, _, true, rfl, ClsV.ty _, TyX.kTuple h1 h2, kit_ty (by decide +kernel), q⟩
theorem slT {a : Addr} {xs : List V} {lo hi : Option Int} (h : SqT K H a xs) (n : ¬ (HT.sIx xs.length 0 lo = 0 ∧ HT.sIx xs.length xs.length hi = xs.length)) (q : Mt H (cutV xs lo hi) Q) : rSlT K (.ref a) lo hi H Q := ⟨a, xs, rfl, h, n, fun p nn => q _ p (same_upd nn) nn upd_same⟩
theorem isiT {b : Bool} (q : Q (.bl true) H) : rIsi K [.bl b, .ty "bool"] H Q := Wc.isiT q
theorem isiTup {a : Addr} {xs : List V} (h : H a = some (.tup xs)) (q : Q (.bl true) H) : rIsi K [.ref a, .ty "tuple"] H Q := Wc.isiTup h q
theorem isiLst {a : Addr} {xs : List V} (h : H a = some (.lst xs)) (q : Q (.bl true) H) : rIsi K [.ref a, .ty "list"] H Q := Wc.isiLst h q
/-! == of tuples of ints -/
theorem eqB {ns ms : List Int} : PyData.eqv (.tuple (ns.map PyData.int)) (.tuple (ms.map PyData.int)) = decide (ns = ms) := by
  have h : ∀ ns ms : List Int, PyData.eqvAll (ns.map PyData.int) (ms.map PyData.int) = decide (ns = ms) := by
    intro ns
    induction ns with
    | nil => intro ms; cases ms <;> simp [PyData.eqvAll]
    | cons n ns ih => intro ms; cases ms with
      | nil => simp [PyData.eqvAll]
      | cons m ms =>
        rw [List.map_cons, List.map_cons, PyData.eqvAll, ih]
        by_cases h : n = m
        · simp [PyData.eqv, h]
        · simp [PyData.eqv, h]
  rw [PyData.eqv]
  exact h ns ms
theorem eqTs {p q : Addr} {ns ms : List Int} {b : Bool} (h1 : SqT K H p (ns.map V.int)) (h2 : SqT K H q (ms.map V.int)) (hb : b = decide (ns = ms)) (h : Q (.bl b) H) : rEqD K (.ref p) (.ref q) H Q :=
  ⟨_, _, .tup h1 (dp_ints ns), .tup h2 (dp_ints ms), shaped_intsT ns, shaped_intsT ms, by rw [eqB, ← hb]; exact h⟩
theorem neTs {p q : Addr} {ns ms : List Int} {b : Bool} (h1 : SqT K H p (ns.map V.int)) (h2 : SqT K H q (ms.map V.int)) (hb : b = decide (ns = ms)) (h : Q (.bl (!b)) H) : rNeD K (.ref p) (.ref q) H Q :=
  ⟨_, _, .tup h1 (dp_ints ns), .tup h2 (dp_ints ms), shaped_intsT ns, shaped_intsT ms, by rw [eqB, ← hb]; exact h⟩
variable {p q : Addr} {a b c d a' b' c' d' : Int}
theorem eq2 (h1 : SqT K H p [.int a, .int b]) (h2 : SqT K H q [.int a', .int b']) (h : Q (.bl (decide (a = a' ∧ b = b'))) H) : rEqD K (.ref p) (.ref q) H Q :=
  eqTs (ns := [a, b]) (ms := [a', b']) h1 h2 (by simp) h
theorem ne2 (h1 : SqT K H p [.int a, .int b]) (h2 : SqT K H q [.int a', .int b']) (h : Q (.bl (!decide (a = a' ∧ b = b'))) H) : rNeD K (.ref p) (.ref q) H Q :=
  neTs (ns := [a, b]) (ms := [a', b']) h1 h2 (by simp) h
theorem eq3 (h1 : SqT K H p [.int a, .int b, .int c]) (h2 : SqT K H q [.int a', .int b', .int c']) (h : Q (.bl (decide (a = a' ∧ b = b' ∧ c = c'))) H) : rEqD K (.ref p) (.ref q) H Q :=
  eqTs (ns := [a, b, c]) (ms := [a', b', c']) h1 h2 (by simp) h
theorem ne3 (h1 : SqT K H p [.int a, .int b, .int c]) (h2 : SqT K H q [.int a', .int b', .int c']) (h : Q (.bl (!decide (a = a' ∧ b = b' ∧ c = c'))) H) : rNeD K (.ref p) (.ref q) H Q :=
  neTs (ns := [a, b, c]) (ms := [a', b', c']) h1 h2 (by simp) h
theorem eq4 (h1 : SqT K H p [.int a, .int b, .int c, .int d]) (h2 : SqT K H q [.int a', .int b', .int c', .int d']) (h : Q (.bl (decide (a = a' ∧ b = b' ∧ c = c' ∧ d = d'))) H) : rEqD K (.ref p) (.ref q) H Q :=
  eqTs (ns := [a, b, c, d]) (ms := [a', b', c', d']) h1 h2 (by simp) h
theorem ne4 (h1 : SqT K H p [.int a, .int b, .int c, .int d]) (h2 : SqT K H q [.int a', .int b', .int c', .int d']) (h : Q (.bl (!decide (a = a' ∧ b = b' ∧ c = c' ∧ d = d'))) H) : rNeD K (.ref p) (.ref q) H Q :=
  neTs (ns := [a, b, c, d]) (ms := [a', b', c', d']) h1 h2 (by simp) h
/-! loops over ranges, comprehensions -/
def ForJ (J : It) (g : TG) (tb : TS) (D : Ends) (σ : L2.St) (H1 : Hp) : Prop := tFor (fun _ Hs R => R J Hs) g tb D σ H1
theorem forE {wi : TI} {g : TG} {tb : TS} {D : Ends} (h : wi σ H fun J H1 => ForJ J g tb D σ H1) : tFor wi g tb D σ H := h
def RgOne (vs : List V) (P : Int → Prop) : Prop := ∃ j : Int, vs = [.int j] ∧ -(2 ^ 62) ≤ j ∧ j < 2 ^ 62 ∧ P j
def RgTwo (vs : List V) (P : Int → Int → Prop) : Prop := ∃ i j : Int, vs = [.int i, .int j] ∧ (-(2 ^ 62) ≤ i ∧ i < 2 ^ 62 ∧ -(2 ^ 62) ≤ j ∧ j < 2 ^ 62) ∧ P i j
theorem rng1 {ta : TA} {R : It → Hp → Prop} (h : ta σ H fun vs H1 => RgOne vs fun j => R (Itr 0 j.toNat) H1) : iRng1 ta σ H R := h
theorem rng2 {ta : TA} {R : It → Hp → Prop} (h : ta σ H fun vs H1 => RgTwo vs fun i j => R (Itr i (j - i).toNat) H1) : iRng2 ta σ H R := h
theorem rg1 {P : Int → Prop} {j : Int} (h1 : -(2 ^ 62) ≤ j) (h2 : j < 2 ^ 62) (h : P j) : RgOne [.int j] P := ⟨j, rfl, h1, h2, h⟩
theorem rg2 {P : Int → Int → Prop} {i j : Int} (h1 : -(2 ^ 62) ≤ i) (h2 : i < 2 ^ 62) (h3 : -(2 ^ 62) ≤ j) (h4 : j < 2 ^ 62) (h : P i j) : RgTwo [.int i, .int j] P := ⟨i, j, rfl, ⟨h1, h2, h3, h4⟩, h⟩
theorem forN {lo : Int} {n : Nat} {g : TG} {tb : TS} {D : Ends} (Pv : Nat → L2.St → Hp → Prop) (h0 : Pv 0 σ H)
    (hs : ∀ i σ H, i < n → Pv i σ H → g (.int (lo + i)) σ H fun σ2 H2 => tb (Ends.mk (Pv (i + 1)) D.rt D.nx (Pv (i + 1))) σ2 H2) (hd : ∀ σ H, Pv n σ H → D.nx σ H) : ForJ (Itr lo n) g tb D σ H := for_range Pv h0 hs hd
def RefOne (v : V) (P : Addr → Prop) : Prop := ∃ a, v = .ref a ∧ P a
theorem itup {tl : TE} {R : It → Hp → Prop} (h : tl σ H fun x H1 => ∃ a, x = .ref a ∧ (∃ xs, SqT K H1 a xs) ∧ R (Itt K a) H1) : iTup K tl σ H R := h
theorem ilst {tl : TE} {R : It → Hp → Prop} (h : tl σ H fun x H1 => ∃ a, x = .ref a ∧ (∃ xs, SqL K H1 a xs) ∧ R (Itl K a) H1) : iList K tl σ H R := h
theorem refs {p : Addr} {xs : List V} {S : Addr → List V → Prop} {R : Addr → Prop} (h1 : S p xs) (h : R p) : ∃ a, V.ref p = .ref a ∧ (∃ ys, S a ys) ∧ R a := ⟨p, rfl, ⟨xs, h1⟩, h⟩
def LcJ (J : It) (g : TG) (tt : TT) (te : TE) (vs : List Nat) (σ : L2.St) (H1 : Hp) (Q : VK) : Prop := tLc (fun _ Hs R => R J Hs) g tt te vs σ H1 Q
theorem lcE {wi : TI} {g : TG} {tt : TT} {vs : List Nat} (h : wi σ H fun J H1 => LcJ J g tt te vs σ H1 Q) : tLc wi g tt te vs σ H Q := h
/-- [int for k in range(n)], each of them by c draws -/
theorem lcI {p a : Addr} {N c n : Nat} {lo : Int} {g : TG} {vs : List Nat} (P : Int → Prop) (hn : n ≤ 900) (d : Dw H p a N)
    (hs : ∀ i H' (Q' : VK), i < n → Dw H' p a (N + c * i) → Kp p H H' → (∀ x H4, P x → Dw H4 p a (N + c * i + c) → Kp p H' H4 → Q' (.int x) H4) → g (.int (lo + i)) (wipe σ vs) H' fun σ2 H2 => wipe σ2 vs = wipe σ vs ∧ te σ2 H2 Q')
    (hq : ∀ H' D (xs : List Int), H' D = some (.lst (xs.map V.int)) → xs.length = n → (∀ x ∈ xs, P x) → Dw H' p a (N + c * n) → Kp p H H' → H D = none → D ≠ p → Q (.ref D) H') : LcJ (Itr lo n) g tYes te vs σ H Q := by
  intro D nD
  have Dp := (d.ne nD).1
  have Da := (d.ne nD).2
  refine lc_range (lo := lo) (n := n) (fun i H' => ∃ xs : List Int, H' D = some (.lst (xs.map V.int)) ∧ xs.length = i ∧ (∀ x ∈ xs, P x) ∧ Dw H' p a (N + c * i) ∧ Kp p H H')
    ⟨[], upd_same, rfl, (fun x h => nomatch h), (d.new nD).mono (by omega), same_kp (same_upd nD)⟩ (fun i H5 hi ⟨xs, h1, h2, h3, h4, h5⟩ => ?_) (fun H5 ⟨xs, h1, h2, h3, h4, h5⟩ => hq H5 D xs h1 h2 h3 h4 h5 nD Dp)
  refine hs i H5 _ hi h4 h5 (fun x H4 px d4 k4 => ⟨_, k4 _ _ Dp h1, ?_, xs ++ [x], ?_, ?_, ?_, ?_, ?_⟩)
  · rw [List.length_map]
    exact small1000 (by omega)
  · rw [upd_same, List.map_append]
    rfl
  · rw [List.length_append, h2]
    rfl
  · intro z hz
    rcases List.mem_append.mp hz with hz | hz
    · exact h3 z hz
    · rw [List.mem_singleton.mp hz]
      exact px
  · have e : N + c * (i + 1) = N + c * i + c := by rw [Nat.mul_add, Nat.mul_one, Nat.add_assoc]
    rw [e]
    exact d4.mut Dp Da
  · intro b o hb e
    have e2 := k4 _ _ hb (h5 _ _ hb e)
    rw [upd_ne (ne_of_none e nD)]
    exact e2
/-- [f(x) for x in a tuple (a list) of ints] -/
theorem lcT {a : Addr} {ns : List Int} {g : TG} {vs : List Nat} (f : Int → Int) (hl : ns.length ≤ 900) (hT : SqT K H a (ns.map V.int))
    (hs : ∀ n H' (Q' : VK), n ∈ ns → Same H H' → Q' (.int (f n)) H' → g (.int n) (wipe σ vs) H' fun σ2 H2 => wipe σ2 vs = wipe σ vs ∧ te σ2 H2 Q')
    (hq : ∀ H' D, H' D = some (.lst ((ns.map f).map V.int)) → Same H H' → H D = none → Q (.ref D) H') : LcJ (Itt K a) g tYes te vs σ H Q := by
  intro D nD
  refine lc_tup (K := K) (a := a) (xs := ns.map V.int) (fun i H' => H' D = some (.lst (((ns.take i).map f).map V.int)) ∧ Same H H') ⟨upd_same, same_upd nD⟩ (fun i H' _ h => same_seqT h.2 hT) (fun i x H5 hx ⟨h1, h5⟩ => ?_) (fun H5 ⟨h1, h5⟩ => ?_)
  · rw [List.getElem?_map] at hx
    cases hn : ns[i]? with
    | none =>
      rw [hn] at hx
      cases hx
    | some n =>
      rw [hn] at hx
      cases hx
      refine hs n H5 _ (List.mem_of_getElem? hn) h5 ⟨_, h1, ?_, ?_, ?_⟩
      · rw [List.length_map, List.length_map, List.length_take]
        exact small1000 (by omega)
      · rw [upd_same, List.take_add_one, hn, List.map_append, List.map_append]
        rfl
      · exact same_mut h5 nD
  · rw [List.length_map, List.take_length] at h1
    exact hq H5 D h1 h5 nD
end
theorem isEq {α : Sort _} {a b : α} (h : a = b) : a = b := h
theorem isLeI {a b : Int} (h : a ≤ b) : a ≤ b := h
theorem cdiv {i j : Int} (h : decide (0 < j ∧ j < 1073741824) = true) : CDiv i j := of_decide_eq_true (p := 0 < j ∧ j < 1073741824) h
theorem cpow {i j : Int} (h : decide (0 ≤ j ∧ j ≤ 1000000 ∧ i.natAbs < 2 ^ 64) = true) : CPow i j := of_decide_eq_true (p := 0 ≤ j ∧ j ≤ 1000000 ∧ i.natAbs < 2 ^ 64) h
theorem notT {A B : Prop} (h : B) : if (!true) = true then A else B := h
theorem notF {A B : Prop} (h : A) : if (!false) = true then A else B := h
theorem isNe {α : Sort _} {a b : α} (h : a ≠ b) : a ≠ b := h
theorem cdivX {n : Nat} {i j : Int} (h1 : j ≠ 0) (h2 : Bd n j) (l : Nat.ble n 9000 = true) : CDivX i j := ⟨h1, Nat.lt_of_lt_of_le h2 (Nat.pow_le_pow_right (by decide) (Nat.le_of_ble_eq_true l))⟩
theorem isLe {a b : Nat} (h : a ≤ b) : a ≤ b := h
theorem isLtI {a b : Int} (h : a < b) : a < b := h
theorem isLt {a b : Nat} (h : a < b) : a < b := h
end R

/-! ### whole roots -/
section
variable {X : Cx}
theorem cr_isqrt : CallR X (.builtin "math.isqrt") (fun vs H Q => ∃ i : Int, vs = [.int i] ∧ 0 ≤ i ∧ i.natAbs < 2 ^ 13000 ∧ Q (.int ((Float64.isqrt i.toNat : Nat) : Int)) H) := by
  intro pins s σ H vs us Q I r h
  obtain ⟨i, rfl, h0, h1, q⟩ := h
  obtain ⟨u, rfl, t, rfl⟩ := vals1 r
  have hl : i.toNat.log2 < 13000 := PySem.Flt.log2_lt_of (by decide) (by omega)
  exact call_function_meets PySem.W.MGF.kind_isqrt PySem.W.MGF.plain_isqrt PySem.W.MGF.entry_isqrt (PySem.W.MGF.args_isqrt _) (PySem.W.mg_run_isqrt i t (by omega) (by omega) (by omega)).meets ⟨.int _, H, I.tok _, ⟨_, rfl⟩, q⟩
end
def rootI (n : Int) : Int := ((Float64.isqrt n.toNat : Nat) : Int)
theorem rootI_spec {n : Int} (h : 0 ≤ n) : 0 ≤ rootI n ∧ rootI n * rootI n ≤ n ∧ n < (rootI n + 1) * (rootI n + 1) := by
  obtain ⟨k, rfl⟩ := Int.eq_ofNat_of_zero_le h
  have e := Float64.isqrt_spec k
  unfold rootI
  have e2 : Int.toNat (k : Int) = k := rfl
  rw [e2]
  generalize Float64.isqrt k = m at e ⊢
  refine ⟨Int.natCast_nonneg m, ?_, ?_⟩
  · exact_mod_cast e.1
  · exact_mod_cast e.2
theorem rootI_lt {n : Int} {b : Nat} (h : 0 ≤ n) (hb : n.natAbs < 2 ^ b) : (rootI n).natAbs < 2 ^ b := by
  obtain ⟨h0, h1, h2⟩ := rootI_spec h
  have h3 : rootI n ≤ n := by
    by_cases e : rootI n = 0
    · omega
    · have h4 : 1 * rootI n ≤ rootI n * rootI n := Int.mul_le_mul_of_nonneg_right (by omega) h0
      omega
  omega
/-! ### common measures -/
def gI (a b : Int) : Int := ((Nat.gcd a.natAbs b.natAbs : Nat) : Int)
theorem gI_nn (a b : Int) : 0 ≤ gI a b := Int.natCast_nonneg _
theorem gI_lt {a b : Int} {B : Nat} (ha : a.natAbs < B) (hb : b.natAbs < B) : (gI a b).natAbs < B := by
  unfold gI
  rw [Int.natAbs_natCast]
  by_cases h : a.natAbs = 0
  · rw [h, Nat.gcd_zero_left]
    exact hb
  · exact Nat.lt_of_le_of_lt (Nat.gcd_le_left _ (by omega)) ha
def gL (ns : List Int) : Int := ns.foldl gI 0
theorem gL_take {ns : List Int} {i : Nat} {x : Int} (h : ns[i]? = some x) : gL (ns.take (i + 1)) = gI (gL (ns.take i)) x := by
  unfold gL
  rw [List.take_add_one, h, List.foldl_append]
  rfl
/-- one step of the walk of measures: what // and the rest are -/
theorem fd_rest {g r : Int} (h : r ≠ 0) : (g - g.fdiv r * r).natAbs < r.natAbs ∧ (0 < r → 0 ≤ g - g.fdiv r * r) ∧ (r < 0 → g - g.fdiv r * r ≤ 0) := by
  have e : g - g.fdiv r * r = g.fmod r := by
    rw [Int.fmod_def, Int.mul_comm]
  rw [e]
  by_cases hr : 0 < r
  · have h1 := Int.fmod_nonneg_of_pos g hr
    have h2 := Int.fmod_lt_of_pos g hr
    refine ⟨by omega, fun _ => h1, fun _ => by omega⟩
  · have h1 := Int.fmod_nonneg_of_pos (-g) (b := -r) (by omega)
    have h2 := Int.fmod_lt_of_pos (-g) (b := -r) (by omega)
    rw [Int.neg_fmod_neg] at h1 h2
    refine ⟨by omega, fun _ => by omega, fun _ => by omega⟩
theorem gcd_step (g q r : Int) : Nat.gcd r.natAbs (g - q * r).natAbs = Nat.gcd g.natAbs r.natAbs := by
  have e1 : Int.gcd r (g - q * r) = Int.gcd r g := by
    rw [Int.sub_eq_add_neg, ← Int.neg_mul]
    exact Int.gcd_add_mul_right_right ..
  have e2 : Int.gcd r g = Int.gcd g r := Int.gcd_comm r g
  exact e1.trans e2
theorem step_lt {g rest u ru q r B : Nat} (hg : g = q * rest + r) (h : ru * g + u * rest ≤ B) : (u + q * ru) * rest + ru * r ≤ B := by
  have e : (u + q * ru) * rest + ru * r = ru * g + u * rest := by
    rw [hg, Nat.add_mul, Nat.mul_add, Nat.mul_comm q ru, Nat.mul_assoc]
    omega
  omega
/-- the state of bezout's walk -/
def Bz (a b g u v r ru rv : Int) : Prop := u * a + v * b = g ∧ ru * a + rv * b = r ∧ (((Nat.gcd g.natAbs r.natAbs : Nat) : Int) = gI a b ∧ u.natAbs ≤ a.natAbs + 2 * b.natAbs + 1 ∧ v.natAbs ≤ a.natAbs + 2 * b.natAbs + 1) ∧
  ((g = a ∧ r = b ∧ u = 1 ∧ v = 0 ∧ ru = 0 ∧ rv = 1) ∨
    (((0 ≤ g ∧ 0 ≤ r) ∨ (g ≤ 0 ∧ r ≤ 0)) ∧ g.natAbs ≤ b.natAbs ∧ r.natAbs < g.natAbs ∧
      ru.natAbs * g.natAbs + u.natAbs * r.natAbs ≤ a.natAbs + 2 * b.natAbs ∧ rv.natAbs * g.natAbs + v.natAbs * r.natAbs ≤ a.natAbs + 2 * b.natAbs))
theorem same_div {g r : Int} (h : (0 ≤ g ∧ 0 < r) ∨ (g ≤ 0 ∧ r < 0)) : g.natAbs = (g.fdiv r).natAbs * r.natAbs + (g - g.fdiv r * r).natAbs := by
  have hr : r ≠ 0 := by omega
  obtain ⟨h1, h2, h3⟩ := fd_rest (g := g) hr
  have hq : 0 ≤ g.fdiv r := by
    rcases h with ⟨a, b⟩ | ⟨a, b⟩
    · exact Int.fdiv_nonneg a (by omega)
    · rw [← Int.neg_fdiv_neg]
      exact Int.fdiv_nonneg (by omega) (by omega)
  obtain ⟨q, e⟩ := Int.eq_ofNat_of_zero_le hq
  rw [e] at h2 h3 ⊢
  rcases h with ⟨a, b⟩ | ⟨a, b⟩
  · have k := h2 b
    have z : g = (q : Int) * r + (g - (q : Int) * r) := by omega
    obtain ⟨r', rfl⟩ := Int.eq_ofNat_of_zero_le (show 0 ≤ r by omega)
    have e2 : ((q * r' : Nat) : Int) = (q : Int) * (r' : Int) := Int.natCast_mul q r'
    rw [Int.natAbs_natCast, Int.natAbs_natCast]
    rw [← e2] at k ⊢
    omega
  · have k := h3 b
    obtain ⟨r', hr'⟩ := Int.eq_ofNat_of_zero_le (show 0 ≤ -r by omega)
    have er : r = -(r' : Int) := by omega
    subst er
    have e2 : ((q * r' : Nat) : Int) = (q : Int) * (r' : Int) := Int.natCast_mul q r'
    rw [Int.mul_neg, ← e2] at k ⊢
    rw [Int.natAbs_natCast, Int.natAbs_neg, Int.natAbs_natCast]
    omega
theorem abs_sub_mul (u q ru : Int) : (u - q * ru).natAbs ≤ u.natAbs + q.natAbs * ru.natAbs := by
  rw [← Int.natAbs_mul]
  omega
theorem Bz.size {a b g u v r ru rv : Int} (h : Bz a b g u v r ru rv) (hr : r ≠ 0) : (g.fdiv r).natAbs ≤ a.natAbs + b.natAbs + 1 ∧ r.natAbs ≤ b.natAbs ∧ ru.natAbs ≤ a.natAbs + 2 * b.natAbs + 1 ∧ rv.natAbs ≤ a.natAbs + 2 * b.natAbs + 1 := by
  obtain ⟨h1, h2, h3, h4⟩ := h
  obtain ⟨k1, k2, k3⟩ := fd_rest (g := g) hr
  have z2 : (g.fdiv r).natAbs * r.natAbs ≤ g.natAbs + r.natAbs := by
    rw [← Int.natAbs_mul]
    omega
  have z3 : (g.fdiv r).natAbs ≤ g.natAbs + 1 := by
    by_cases z : (g.fdiv r).natAbs ≤ g.natAbs + 1
    · exact z
    · have z4 : (g.natAbs + 2) * r.natAbs ≤ (g.fdiv r).natAbs * r.natAbs := Nat.mul_le_mul_right _ (by omega)
      have z5 : g.natAbs * 1 ≤ g.natAbs * r.natAbs := Nat.mul_le_mul_left _ (by omega)
      rw [Nat.add_mul] at z4
      omega
  rcases h4 with ⟨e1, e2, e3, e4, e5, e6⟩ | ⟨e1, e2, e3, e4, e5⟩
  · rw [e5, e6]
    refine ⟨?_, ?_, ?_, ?_⟩ <;> first | omega | (subst e1 e2; omega)
  · have z4 : ru.natAbs * 1 ≤ ru.natAbs * g.natAbs := Nat.mul_le_mul_left _ (by omega)
    have z5 : rv.natAbs * 1 ≤ rv.natAbs * g.natAbs := Nat.mul_le_mul_left _ (by omega)
    refine ⟨by omega, by omega, by omega, by omega⟩
theorem Bz.step {a b g u v r ru rv : Int} (h : Bz a b g u v r ru rv) (hr : r ≠ 0) : Bz a b r ru rv (g - g.fdiv r * r) (u - g.fdiv r * ru) (v - g.fdiv r * rv) := by
  have sz := h.size hr
  obtain ⟨h1, h2, h3, h4⟩ := h
  obtain ⟨k1, k2, k3⟩ := fd_rest (g := g) hr
  refine ⟨h2, ?_, ⟨by rw [gcd_step]; exact h3.1, sz.2.2⟩, .inr ⟨?_, ?_, k1, ?_, ?_⟩⟩
  · rw [← h1, ← h2]
    generalize (u * a + v * b).fdiv (ru * a + rv * b) = q
    rw [Int.sub_mul, Int.sub_mul, Int.mul_add, Int.mul_assoc, Int.mul_assoc]
    omega
  · by_cases z : 0 < r
    · exact .inl ⟨by omega, k2 z⟩
    · exact .inr ⟨by omega, k3 (by omega)⟩
  · rcases h4 with ⟨e1, e2, _⟩ | ⟨_, e2, e3, _⟩
    · rw [e2]
      omega
    · omega
  · rcases h4 with ⟨e1, e2, e3, e4, e5, e6⟩ | ⟨e1, e2, e3, e4, e5⟩
    · rw [e3, e5, e2]
      simp
      omega
    · refine Nat.le_trans (Nat.add_le_add_right (Nat.mul_le_mul_right _ (abs_sub_mul u (g.fdiv r) ru)) _) (step_lt (same_div ?_) e4)
      omega
  · rcases h4 with ⟨e1, e2, e3, e4, e5, e6⟩ | ⟨e1, e2, e3, e4, e5⟩
    · rw [e4, e6]
      have z := abs_sub_mul 0 (g.fdiv r) 1
      have z2 : (g.fdiv r).natAbs * r.natAbs ≤ g.natAbs + r.natAbs := by
        rw [← Int.natAbs_mul]
        omega
      have z3 := Nat.mul_le_mul_right r.natAbs z
      have z4 : (Int.natAbs 0 + (g.fdiv r).natAbs * Int.natAbs 1) * r.natAbs = (g.fdiv r).natAbs * r.natAbs := by simp
      rw [z4] at z3
      have z5 : Int.natAbs 1 * (g - g.fdiv r * r).natAbs = (g - g.fdiv r * r).natAbs := by simp
      rw [z5]
      subst e1 e2
      omega
    · refine Nat.le_trans (Nat.add_le_add_right (Nat.mul_le_mul_right _ (abs_sub_mul v (g.fdiv r) rv)) _) (step_lt (same_div ?_) e5)
      omega

/-! ### the law's own root -/
theorem rootI_uniq {n r : Int} (h : 0 ≤ n) (h0 : 0 ≤ r) (h1 : r * r ≤ n) (h2 : n < (r + 1) * (r + 1)) : r = rootI n := by
  obtain ⟨k0, k1, k2⟩ := rootI_spec h
  generalize rootI n = s at k0 k1 k2 ⊢
  by_cases a : r < s
  · have z : (r + 1) * (r + 1) ≤ s * s := Int.mul_le_mul (by omega) (by omega) (by omega) (by omega)
    omega
  · by_cases b : s < r
    · have z : (s + 1) * (s + 1) ≤ r * r := Int.mul_le_mul (by omega) (by omega) (by omega) (by omega)
      omega
    · omega
theorem half_step {low high n : Int} {i : Nat} (h : low + 1 < high) (hi : (high - low - 1) * 2 ^ i ≤ n) : ((low + high) / 2 - low - 1) * 2 ^ (i + 1) ≤ n ∧ (high - (low + high) / 2 - 1) * 2 ^ (i + 1) ≤ n ∧ low < (low + high) / 2 ∧ (low + high) / 2 < high := by
  have e : (2 : Int) ^ (i + 1) = 2 * 2 ^ i := by rw [Int.pow_succ, Int.mul_comm]
  have p0 : (0 : Int) < 2 ^ i := Int.pow_pos (by decide)
  rw [e]
  generalize (2 : Int) ^ i = B at hi p0 ⊢
  have m1 : (low + high) / 2 - low - 1 ≤ (high - low - 1) / 2 := by omega
  have m2 : high - (low + high) / 2 - 1 ≤ (high - low - 1) / 2 := by omega
  have m3 : 2 * ((high - low - 1) / 2) ≤ high - low - 1 := by omega
  refine ⟨?_, ?_, by omega, by omega⟩
  · have a1 : ((low + high) / 2 - low - 1) * (2 * B) = (2 * ((low + high) / 2 - low - 1)) * B := by grind
    have a2 : (2 * ((low + high) / 2 - low - 1)) * B ≤ (high - low - 1) * B := Int.mul_le_mul_of_nonneg_right (by omega) (by omega)
    omega
  · have a1 : (high - (low + high) / 2 - 1) * (2 * B) = (2 * (high - (low + high) / 2 - 1)) * B := by grind
    have a2 : (2 * (high - (low + high) / 2 - 1)) * B ≤ (high - low - 1) * B := Int.mul_le_mul_of_nonneg_right (by omega) (by omega)
    omega

/-! ### continued fractions -/
def partI (p q root : Int) : Int := if 0 < q then (p + root).fdiv q else (p + root + 1).fdiv q
def nxt (d root : Int) (s : Int × Int) : Int × Int := (partI s.1 s.2 root * s.2 - s.1, (d - (partI s.1 s.2 root * s.2 - s.1) * (partI s.1 s.2 root * s.2 - s.1)).fdiv s.2)
def cf (d root : Int) (s : Int × Int) : Nat → Int × Int
  | 0 => s
  | k + 1 => nxt d root (cf d root s k)
def cfa (d : Int) (s : Int × Int) (i : Nat) : Int := partI (cf d (rootI d) s i).1 (cf d (rootI d) s i).2 (rootI d)
/-- what the walk of expand wants -/
def ExOk (p q d : Int) (n j : Nat) : Prop := 0 ≤ d ∧ d < 2 ^ 60 ∧ rootI d * rootI d ≠ d ∧ q ≠ 0 ∧ (d - p * p).fmod q = 0 ∧ j < n ∧ n ≤ 100000 ∧ cf d (rootI d) (p, q) n = cf d (rootI d) (p, q) j ∧
  (∀ a b, a < b → b < n → cf d (rootI d) (p, q) a ≠ cf d (rootI d) (p, q) b) ∧ ∀ i, i ≤ n → (cf d (rootI d) (p, q) i).1.natAbs < 2 ^ 60 ∧ (cf d (rootI d) (p, q) i).2.natAbs < 2 ^ 60 ∧ (cf d (rootI d) (p, q) i).2 ≠ 0
def ckey (s : Int × Int) : List Key := [.inl s.1, .inl s.2]
theorem ckey_inj {s t : Int × Int} (h : ckey s = ckey t) : s = t := by
  unfold ckey at h
  injection h with h1 h2
  injection h2 with h2 _
  injection h1 with h1
  injection h2 with h2
  exact Prod.ext h1 h2
def ckv (f : Nat → Int × Int) (n : Nat) : List (List Key × V) := (List.range n).map fun i => (ckey (f i), V.int (i : Int))
theorem ckv_succ (f : Nat → Int × Int) (n : Nat) : ckv f (n + 1) = ckv f n ++ [(ckey (f n), V.int (n : Int))] := by
  unfold ckv
  rw [List.range_succ, List.map_append]
  rfl
theorem ckv_len (f : Nat → Int × Int) (n : Nat) : (ckv f n).length = n := by
  unfold ckv
  rw [List.length_map, List.length_range]
theorem valV_app {κ : Type} [DecidableEq κ] (xs : List (κ × V)) (k : κ) (v : V) (k' : κ) : valV (xs ++ [(k, v)]) k' = (match valV xs k' with | some z => some z | none => if k = k' then some v else none) := by
  unfold valV
  rw [List.find?_append]
  cases h : xs.find? fun kv => decide (kv.1 = k') with
  | some z => rfl
  | none =>
    by_cases e : k = k'
    · simp [e]
    · simp [e]
theorem ckv_none {f : Nat → Int × Int} : ∀ {n : Nat} {s : Int × Int}, (∀ i, i < n → f i ≠ s) → valV (ckv f n) (ckey s) = none
  | 0, _, _ => rfl
  | n + 1, s, h => by
    rw [ckv_succ, valV_app, ckv_none fun i hi => h i (by omega)]
    exact if_neg fun e => h n (by omega) (ckey_inj e)
theorem ckv_some {f : Nat → Int × Int} {s : Int × Int} {j : Nat} (hj : f j = s) : ∀ {n : Nat}, j < n → (∀ i, i < j → f i ≠ s) → valV (ckv f n) (ckey s) = some (.int (j : Int))
  | 0, h, _ => absurd h (by omega)
  | n + 1, h, k => by
    rw [ckv_succ, valV_app]
    by_cases e : j < n
    · rw [ckv_some hj e k]
    · have e1 : j = n := by omega
      subst e1
      rw [ckv_none k]
      exact if_pos (congrArg ckey hj)
theorem ckv_put {f : Nat → Int × Int} {n : Nat} (h : ∀ i, i < n → f i ≠ f n) : putK (ckv f n) (ckey (f n)) (.int (n : Int)) = ckv f (n + 1) := by
  unfold putK
  rw [valV_any, ckv_none h, ckv_succ]
  exact if_neg Bool.false_ne_true
/-! ### reduced pairs -/
structure Red (d root P Q : Int) : Prop where
  q0 : 0 < Q
  p1 : P ≤ root
  lo : root - P < Q
  hi : Q ≤ root + P
  dv : Q ∣ d - P * P
theorem partI_pos {p q root : Int} (h : 0 < q) : partI p q root = (p + root) / q := by
  unfold partI
  rw [if_pos h, Int.fdiv_eq_ediv_of_nonneg _ (by omega)]
theorem nxt_exact {d root P Q : Int} (h : Q ≠ 0) (dv : Q ∣ d - P * P) : (nxt d root (P, Q)).2 * Q = d - (nxt d root (P, Q)).1 * (nxt d root (P, Q)).1 := by
  obtain ⟨c, hc⟩ := dv
  unfold nxt
  show (d - (partI P Q root * Q - P) * (partI P Q root * Q - P)).fdiv Q * Q = d - (partI P Q root * Q - P) * (partI P Q root * Q - P)
  generalize partI P Q root = a
  refine Int.fdiv_mul_cancel_of_fmod_eq_zero (Int.fmod_eq_zero_of_dvd ⟨c - a * a * Q + 2 * a * P, ?_⟩)
  grind
theorem Red.step {d root P Q : Int} (r0 : 0 ≤ root) (h1 : root * root < d) (h2 : d < (root + 1) * (root + 1)) (R : Red d root P Q) : Red d root (nxt d root (P, Q)).1 (nxt d root (P, Q)).2 := by
  have ex := nxt_exact (root := root) (Int.ne_of_gt R.q0) R.dv
  obtain ⟨q0, p1, lo, hi, dv⟩ := R
  have e1 : (nxt d root (P, Q)).1 = (P + root) / Q * Q - P := by
    unfold nxt
    show partI P Q root * Q - P = _
    rw [partI_pos q0]
  generalize (nxt d root (P, Q)).1 = P' at ex e1 ⊢
  generalize (nxt d root (P, Q)).2 = Q' at ex ⊢
  have a1 : (P + root) / Q * Q ≤ P + root := Int.ediv_mul_le _ (by omega)
  have a2 : P + root < (P + root) / Q * Q + Q := by
    have z := Int.lt_ediv_add_one_mul_self (P + root) q0
    rw [Int.add_mul, Int.one_mul] at z
    exact z
  have a3 : 1 ≤ (P + root) / Q := by
    have z : 1 * Q ≤ P + root := by omega
    exact (Int.le_ediv_iff_mul_le q0).mpr z
  have a4 : 1 * Q ≤ (P + root) / Q * Q := Int.mul_le_mul_of_nonneg_right a3 (by omega)
  generalize (P + root) / Q * Q = aQ at a1 a2 a4 e1
  have b1 : P' ≤ root := by omega
  have b2 : root - Q < P' := by omega
  have b3 : -root < P' := by omega
  have b4 : Q ≤ root + P' := by omega
  have c1 : P' * P' ≤ root * root := by
    have z : 0 ≤ (root - P') * (root + P') := Int.mul_nonneg (by omega) (by omega)
    have z2 : (root - P') * (root + P') = root * root - P' * P' := by grind
    omega
  have c2 : 0 < Q' * Q := by omega
  have c3 : 0 < Q' := by
    by_cases z : 0 < Q'
    · exact z
    · have z2 : Q' * Q ≤ 0 * Q := Int.mul_le_mul_of_nonneg_right (by omega) (by omega)
      omega
  refine ⟨c3, b1, ?_, ?_, ?_⟩
  · by_cases z : root - P' < Q'
    · exact z
    · have z2 : Q' * Q ≤ (root - P') * (root + P') := Int.mul_le_mul (by omega) b4 (by omega) (by omega)
      have z3 : (root - P') * (root + P') = root * root - P' * P' := by grind
      omega
  · by_cases z : Q' ≤ root + P'
    · exact z
    · have z2 : (root + P' + 1) * (root - P' + 1) ≤ Q' * Q := Int.mul_le_mul (by omega) (by omega) (by omega) (by omega)
      have z3 : (root + P' + 1) * (root - P' + 1) = (root + 1) * (root + 1) - P' * P' := by grind
      omega
  · exact ⟨Q, by omega⟩
theorem Red.back {d root P Q P2 Q2 : Int} (R : Red d root P Q) (S : Red d root P2 Q2) (r0 : 0 ≤ root) (h1 : root * root < d) (h2 : d < (root + 1) * (root + 1)) (e : nxt d root (P, Q) = nxt d root (P2, Q2)) : P = P2 ∧ Q = Q2 := by
  have ex := nxt_exact (root := root) (Int.ne_of_gt R.q0) R.dv
  have ex2 := nxt_exact (root := root) (Int.ne_of_gt S.q0) S.dv
  have N := R.step r0 h1 h2
  have e1 : (nxt d root (P, Q)).1 = partI P Q root * Q - P := rfl
  have e2 : (nxt d root (P2, Q2)).1 = partI P2 Q2 root * Q2 - P2 := rfl
  rw [← e] at ex2 e2
  have n0 := N.q0
  generalize (nxt d root (P, Q)).1 = P' at ex ex2 e1 e2
  generalize (nxt d root (P, Q)).2 = Q' at ex ex2 n0
  have eq : Q = Q2 := Int.eq_of_mul_eq_mul_left (Int.ne_of_gt n0) (ex.trans ex2.symm)
  subst eq
  refine ⟨?_, rfl⟩
  have l1 := R.lo
  have l2 := S.lo
  have u1 := R.p1
  have u2 := S.p1
  have q0 := R.q0
  generalize partI P Q root = a at e1
  generalize partI P2 Q root = b at e2
  have e3 : (a - b) * Q = P - P2 := by
    rw [Int.sub_mul]
    omega
  by_cases z : a - b ≤ -1
  · have z2 : (a - b) * Q ≤ -1 * Q := Int.mul_le_mul_of_nonneg_right z (by omega)
    omega
  · by_cases z' : 1 ≤ a - b
    · have z2 : 1 * Q ≤ (a - b) * Q := Int.mul_le_mul_of_nonneg_right z' (by omega)
      omega
    · have z2 : a - b = 0 := by omega
      rw [z2, Int.zero_mul] at e3
      omega
/-! ### the root of d: from (0, 1) -/
section
variable {d root : Int}
theorem cf_one (hq : True) : cf d root (0, 1) 1 = (root, d - root * root) := by
  show nxt d root (0, 1) = _
  unfold nxt
  show (partI 0 1 root * 1 - 0, (d - (partI 0 1 root * 1 - 0) * (partI 0 1 root * 1 - 0)).fdiv 1) = _
  have e : partI 0 1 root * 1 - 0 = root := by
    rw [partI_pos (by decide)]
    simp
  rw [e, Int.fdiv_one]
theorem cf_red (r0 : 0 ≤ root) (h1 : root * root < d) (h2 : d < (root + 1) * (root + 1)) : ∀ k, Red d root (cf d root (0, 1) (k + 1)).1 (cf d root (0, 1) (k + 1)).2
  | 0 => by
    rw [cf_one trivial]
    have e : (root + 1) * (root + 1) = root * root + 2 * root + 1 := by grind
    exact ⟨by show 0 < d - root * root; omega, by show root ≤ root; omega, by show root - root < d - root * root; omega, by show d - root * root ≤ root + root; omega, ⟨1, by show d - root * root = (d - root * root) * 1; omega⟩⟩
  | k + 1 => (cf_red r0 h1 h2 k).step r0 h1 h2
theorem cf_exact (r0 : 0 ≤ root) (h1 : root * root < d) (h2 : d < (root + 1) * (root + 1)) : ∀ k, (cf d root (0, 1) (k + 1)).2 * (cf d root (0, 1) k).2 = d - (cf d root (0, 1) (k + 1)).1 * (cf d root (0, 1) (k + 1)).1
  | 0 => by
    rw [cf_one trivial]
    show (d - root * root) * 1 = d - root * root
    omega
  | k + 1 => by
    have R := cf_red r0 h1 h2 k
    exact nxt_exact (P := (cf d root (0, 1) (k + 1)).1) (Q := (cf d root (0, 1) (k + 1)).2) (Int.ne_of_gt R.q0) R.dv
theorem cf_again (l : Nat) (h : (cf d root (0, 1) l).2 = 1) : cf d root (0, 1) (l + 1) = cf d root (0, 1) 1 := by
  rw [cf_one trivial]
  show nxt d root (cf d root (0, 1) l) = _
  unfold nxt
  rw [h]
  generalize (cf d root (0, 1) l).1 = P
  have e : partI P 1 root * 1 - P = root := by
    rw [partI_pos (by decide)]
    simp
    omega
  rw [e, Int.fdiv_one]
theorem cf_shift (l : Nat) (h : (cf d root (0, 1) l).2 = 1) : ∀ k, cf d root (0, 1) (l + (k + 1)) = cf d root (0, 1) (k + 1)
  | 0 => cf_again l h
  | k + 1 => by
    show nxt d root (cf d root (0, 1) (l + (k + 1))) = nxt d root (cf d root (0, 1) (k + 1))
    rw [cf_shift l h k]
theorem cf_unlike (r0 : 0 ≤ root) (h1 : root * root < d) (h2 : d < (root + 1) * (root + 1)) {l : Nat} (hm : ∀ k, 1 ≤ k → k < l → (cf d root (0, 1) k).2 ≠ 1) : ∀ j i, j < i → i ≤ l → cf d root (0, 1) j ≠ cf d root (0, 1) i
  | 0, i, hij, hl, e => by
    obtain ⟨k, rfl⟩ : ∃ k, i = k + 1 := ⟨i - 1, by omega⟩
    have R := cf_red r0 h1 h2 k
    rw [← e] at R
    have a := R.lo
    have b := R.hi
    have a2 : root - 0 < 1 := a
    have b2 : (1 : Int) ≤ root + 0 := b
    omega
  | 1, i, hij, hl, e => by
    obtain ⟨k, rfl⟩ : ∃ k, i = k + 2 := ⟨i - 2, by omega⟩
    have x := cf_exact r0 h1 h2 (k + 1)
    have R := cf_red r0 h1 h2 (k + 1)
    have x2 : (cf d root (0, 1) (k + 2)).2 * (cf d root (0, 1) (k + 1)).2 = d - (cf d root (0, 1) (k + 2)).1 * (cf d root (0, 1) (k + 2)).1 := x
    rw [← e, cf_one trivial] at x2
    have x3 : (d - root * root) * (cf d root (0, 1) (k + 1)).2 = (d - root * root) * 1 := by
      have y : (d - root * root) * (cf d root (0, 1) (k + 1)).2 = d - root * root := x2
      omega
    exact hm (k + 1) (by omega) (by omega) (Int.eq_of_mul_eq_mul_left (by omega) x3)
  | j + 2, i, hij, hl, e => by
    obtain ⟨k, rfl⟩ : ∃ k, i = k + 2 := ⟨i - 2, by omega⟩
    have b := (cf_red r0 h1 h2 j).back (cf_red r0 h1 h2 k) r0 h1 h2 e
    exact cf_unlike r0 h1 h2 hm (j + 1) (k + 1) (by omega) (by omega) (Prod.ext b.1 b.2)
end
/-! ### convergents -/
def cstep (s : (Int × Int) × (Int × Int)) (a : Int) : (Int × Int) × (Int × Int) := (s.2, (a * s.2.1 + s.1.1, a * s.2.2 + s.1.2))
def cst (ns : List Int) : (Int × Int) × (Int × Int) := ns.foldl cstep ((0, 1), (1, 0))
def cvl (ns : List Int) : List (Int × Int) := (List.range ns.length).map fun i => (cst (ns.take (i + 1))).2
theorem cst_take {ns : List Int} {i : Nat} {x : Int} (h : ns[i]? = some x) : cst (ns.take (i + 1)) = cstep (cst (ns.take i)) x := by
  unfold cst
  rw [List.take_add_one, h, List.foldl_append]
  rfl
theorem cvl_take {ns : List Int} {i : Nat} (h : i < ns.length) : cvl (ns.take (i + 1)) = cvl (ns.take i) ++ [(cst (ns.take (i + 1))).2] := by
  unfold cvl
  have e1 : (ns.take (i + 1)).length = i + 1 := by rw [List.length_take]; omega
  have e2 : (ns.take i).length = i := by rw [List.length_take]; omega
  rw [e1, e2, List.range_succ, List.map_append]
  congr 1
  · refine List.map_congr_left fun k hk => ?_
    have hk' : k < i := List.mem_range.mp hk
    rw [List.take_take, List.take_take, Nat.min_eq_left (by omega), Nat.min_eq_left (by omega)]
  · show [(cst ((ns.take (i + 1)).take (i + 1))).2] = _
    rw [List.take_take, Nat.min_self]
inductive Prs (H : Hp) : List Addr → List (Int × Int) → Prop
  | nil : Prs H [] []
  | cons {a : Addr} {p : Int × Int} {as : List Addr} {ps : List (Int × Int)} : H a = some (.tup [.int p.1, .int p.2]) → Prs H as ps → Prs H (a :: as) (p :: ps)
theorem Prs.same {H H' : Hp} {as : List Addr} {ps : List (Int × Int)} (h : Prs H as ps) (s : Same H H') : Prs H' as ps := by
  induction h with
  | nil => exact .nil
  | cons e _ ih => exact .cons (s _ _ e) ih
theorem Prs.mono {H H' : Hp} {as : List Addr} {ps : List (Int × Int)} (h : Prs H as ps) (s : ∀ b xs, H b = some (.tup xs) → H' b = some (.tup xs)) : Prs H' as ps := by
  induction h with
  | nil => exact .nil
  | cons e _ ih => exact .cons (s _ _ e) ih
theorem Prs.snoc {H : Hp} {as : List Addr} {ps : List (Int × Int)} {a : Addr} {p : Int × Int} (h : Prs H as ps) (e : H a = some (.tup [.int p.1, .int p.2])) : Prs H (as ++ [a]) (ps ++ [p]) := by
  induction h with
  | nil => exact .cons e .nil
  | cons e' _ ih => exact .cons e' ih
theorem Prs.len {H : Hp} {as : List Addr} {ps : List (Int × Int)} (h : Prs H as ps) : as.length = ps.length := by
  induction h with
  | nil => rfl
  | cons _ _ ih => rw [List.length_cons, List.length_cons, ih]
def pdI (p : Int × Int) : PyData := .tuple [.int p.1, .int p.2]
theorem Prs.dp {K : PySem.W.Frag} {H : Hp} {as : List Addr} {ps : List (Int × Int)} (h : Prs H as ps) : DpAll K H (as.map V.ref) (ps.map pdI) := by
  induction h with
  | nil => exact .nil
  | cons e _ ih => exact .cons (.tup (SqT.of e) (.cons (.int _) (.cons (.int _) .nil))) ih
theorem lay_prs : ∀ ps : List (Int × Int), PyData.canLayAll0 (ps.map pdI) = true
  | [] => rfl
  | p :: ps => by
    rw [List.map_cons, PyData.canLayAll0, lay_prs ps]
    rfl
theorem depth_prs : ∀ ps : List (Int × Int), PyData.depthAll (ps.map pdI) ≤ 1
  | [] => Nat.zero_le _
  | p :: ps => by
    rw [List.map_cons, PyData.depthAll]
    have h := depth_prs ps
    have e : (pdI p).depth = 1 := by
      unfold pdI
      rw [PyData.depth]
      rfl
    omega
theorem shaped_prs (ps : List (Int × Int)) : SeqAt.shaped (.list (ps.map pdI)) = true := by
  show (PyData.canLay0 (.list (ps.map pdI)) && decide (PyData.depth (.list (ps.map pdI)) ≤ 64)) = true
  rw [Bool.and_eq_true]
  refine ⟨by rw [PyData.canLay0]; exact lay_prs ps, decide_eq_true ?_⟩
  rw [PyData.depth]
  have h := depth_prs ps
  omega
theorem Prs.at {H : Hp} {as : List Addr} {ps : List (Int × Int)} (h : Prs H as ps) : ∀ {i : Nat} {p : Int × Int}, ps[i]? = some p → ∃ a, as[i]? = some a ∧ H a = some (.tup [.int p.1, .int p.2]) := by
  induction h with
  | nil => intro i p e; simp at e
  | @cons a q as ps e _ ih =>
    intro i p e2
    cases i with
    | zero =>
      have e3 : q = p := Option.some.inj e2
      subst e3
      exact ⟨a, rfl, e⟩
    | succ i => exact ih e2
theorem at_end {α : Type} {xs : List α} {v : α} (h : xs[xs.length - 1]? = some v) : atI xs (-1) = some v := by
  have hl : 0 < xs.length := by
    cases xs with
    | nil => cases h
    | cons x r => exact Nat.succ_pos _
  have e : ixN xs.length (-1) = some (xs.length - 1) := by
    unfold ixN
    rw [if_neg (by decide), if_pos (by omega)]
    congr 1
    omega
  unfold atI
  rw [e]
  exact h
/-! ### pell -/
def aL (d : Int) (k : Nat) : List Int := (List.range k).map (cfa d (0, 1))
theorem aL_succ (d : Int) (k : Nat) : aL d (k + 1) = aL d k ++ [cfa d (0, 1) k] := by
  unfold aL
  rw [List.range_succ, List.map_append]
  rfl
theorem aL_len (d : Int) (k : Nat) : (aL d k).length = k := by
  unfold aL
  rw [List.length_map, List.length_range]
theorem aL_at {d : Int} {k i : Nat} (h : i < k) : (aL d k)[i]? = some (cfa d (0, 1) i) := by
  unfold aL
  rw [List.getElem?_map, List.getElem?_range h]
  rfl
theorem cst_aL (d : Int) (k : Nat) : cst (aL d (k + 1)) = cstep (cst (aL d k)) (cfa d (0, 1) k) := by
  unfold cst
  rw [aL_succ, List.foldl_append]
  rfl
def sg (k : Nat) : Int := if k % 2 = 0 then 1 else -1
theorem sg_succ (k : Nat) : sg (k + 1) = -sg k := by
  unfold sg
  by_cases h : k % 2 = 0
  · rw [if_pos h, if_neg (by omega)]
  · rw [if_neg h, if_pos (by omega)]
    rfl
theorem nrm_q (Q1 Q2 P P2 d a R : Int) (h0 : Q1 ≠ 0) (hR : R*Q1 = d - P*P) (hQ2 : Q2*Q1 = d - P2*P2) (hP : P2 = a*Q1 - P) : Q2 = R + a*(P - P2) := by
  have z : (Q2 - (R + a*(P-P2)))*Q1 = 0 := by grind
  rcases Int.mul_eq_zero.mp z with h | h
  · omega
  · exact absurd h h0
theorem nrm_step (a p q e d P P2 Q1 Q2 R p0 q0 : Int) (h0 : Q1 ≠ 0) (h1 : p*p - d*(q*q) = e*Q1) (h2 : p*p0 - d*(q*q0) = -(e*P)) (h3 : p0*p0 - d*(q0*q0) = -(e*R)) (hP : P2 = a*Q1 - P) (hR : R*Q1 = d - P*P) (hQ2 : Q2*Q1 = d - P2*P2) :
    (a*p+p0)*(a*p+p0) - d*((a*q+q0)*(a*q+q0)) = -(e*Q2) ∧ (a*p+p0)*p - d*((a*q+q0)*q) = e*P2 := by
  have hQ : Q2 = R + a*(P - P2) := nrm_q Q1 Q2 P P2 d a R h0 hR hQ2 hP
  clear hQ2 hR h0
  constructor <;> grind
/-- d lies between two squares, and the walk of its root comes to the denominator 1 at l first -/
structure PellOk (d : Int) (l : Nat) : Prop where
  d0 : 0 < d
  d1 : d < 10001
  ns : rootI d * rootI d ≠ d
  l0 : 1 ≤ l
  l1 : l ≤ 40000
  one : (cf d (rootI d) (0, 1) l).2 = 1
  least : ∀ k, 1 ≤ k → k < l → (cf d (rootI d) (0, 1) k).2 ≠ 1
section
variable {d : Int} {l : Nat}
theorem PellOk.sq (h : PellOk d l) : 0 ≤ rootI d ∧ rootI d * rootI d < d ∧ d < (rootI d + 1) * (rootI d + 1) ∧ rootI d ≤ 100 := by
  have h0 := h.d0
  have h1 := h.d1
  have h2 := h.ns
  obtain ⟨a, b, c⟩ := rootI_spec (n := d) (by omega)
  refine ⟨a, by omega, c, ?_⟩
  by_cases z : rootI d ≤ 100
  · exact z
  · have e : 101 * 101 ≤ rootI d * rootI d := Int.mul_le_mul (by omega) (by omega) (by omega) (by omega)
    omega
theorem PellOk.red (h : PellOk d l) (k : Nat) : Red d (rootI d) (cf d (rootI d) (0, 1) (k + 1)).1 (cf d (rootI d) (0, 1) (k + 1)).2 := by
  obtain ⟨a, b, c, e⟩ := h.sq
  exact cf_red a b c k
theorem PellOk.size (h : PellOk d l) (k : Nat) : 0 ≤ (cf d (rootI d) (0, 1) k).1 ∧ (cf d (rootI d) (0, 1) k).1 ≤ 100 ∧ 0 < (cf d (rootI d) (0, 1) k).2 ∧ (cf d (rootI d) (0, 1) k).2 ≤ 200 := by
  obtain ⟨a, b, c, e⟩ := h.sq
  cases k with
  | zero => exact ⟨by show (0 : Int) ≤ 0; omega, by show (0 : Int) ≤ 100; omega, by show (0 : Int) < 1; omega, by show (1 : Int) ≤ 200; omega⟩
  | succ k =>
    have R := h.red k
    have r1 := R.q0
    have r2 := R.p1
    have r3 := R.lo
    have r4 := R.hi
    omega
theorem PellOk.part (h : PellOk d l) (k : Nat) : 0 ≤ cfa d (0, 1) k ∧ cfa d (0, 1) k ≤ 200 := by
  obtain ⟨a, b, c, e⟩ := h.sq
  obtain ⟨s1, s2, s3, s4⟩ := h.size k
  unfold cfa
  rw [partI_pos s3]
  have z := Int.ediv_le_self (a := (cf d (rootI d) (0, 1) k).1 + rootI d) (cf d (rootI d) (0, 1) k).2 (by omega)
  exact ⟨Int.ediv_nonneg (by omega) (by omega), by omega⟩
theorem PellOk.ex (h : PellOk d l) : ExOk 0 1 d (l + 1) 1 := by
  obtain ⟨a, b, c, e⟩ := h.sq
  have h0 := h.d0
  have h1 := h.d1
  have hl := h.l0
  have hl1 := h.l1
  refine ⟨by omega, by show d < 1152921504606846976; omega, h.ns, by decide, ?_, by omega, by omega, cf_again l h.one, fun i j hij hj => cf_unlike a b c h.least i j hij (by omega), fun i _ => ?_⟩
  · exact Int.fmod_one _
  · obtain ⟨s1, s2, s3, s4⟩ := h.size i
    exact ⟨by show _ < 1152921504606846976; omega, by show _ < 1152921504606846976; omega, by omega⟩
theorem PellOk.period (h : PellOk d l) : ∀ k, cf d (rootI d) (0, 1) (k + 1) = cf d (rootI d) (0, 1) (k % l + 1) := by
  intro k
  have hl := h.l0
  induction k using Nat.strongRecOn with
  | _ k ih =>
    by_cases hk : k < l
    · rw [Nat.mod_eq_of_lt hk]
    · have e := cf_shift l h.one (k - l)
      have e2 : l + (k - l + 1) = k + 1 := by omega
      rw [e2] at e
      rw [e, ih (k - l) (by omega)]
      have e3 : k % l = (k - l) % l := Nat.mod_eq_sub_mod (by omega)
      rw [e3]
theorem PellOk.nrm (h : PellOk d l) : ∀ k, (cst (aL d k)).2.1 * (cst (aL d k)).2.1 - d * ((cst (aL d k)).2.2 * (cst (aL d k)).2.2) = sg k * (cf d (rootI d) (0, 1) k).2 ∧ (cst (aL d k)).2.1 * (cst (aL d k)).1.1 - d * ((cst (aL d k)).2.2 * (cst (aL d k)).1.2) = -(sg k * (cf d (rootI d) (0, 1) k).1) ∧
    ∃ R, (cst (aL d k)).1.1 * (cst (aL d k)).1.1 - d * ((cst (aL d k)).1.2 * (cst (aL d k)).1.2) = -(sg k * R) ∧ R * (cf d (rootI d) (0, 1) k).2 = d - (cf d (rootI d) (0, 1) k).1 * (cf d (rootI d) (0, 1) k).1
  | 0 => ⟨by show (1 : Int) * 1 - d * (0 * 0) = 1 * 1; omega, by show (1 : Int) * 0 - d * (0 * 1) = -(1 * 0); omega, d, by show (0 : Int) * 0 - d * (1 * 1) = -(1 * d); omega, by show d * 1 = d - 0 * 0; omega⟩
  | k + 1 => by
    obtain ⟨h1, h2, R, h3, h4⟩ := h.nrm k
    obtain ⟨a, b, c, e⟩ := h.sq
    have x := cf_exact a b c k
    obtain ⟨s1, s2, s3, s4⟩ := h.size k
    have hP : (cf d (rootI d) (0, 1) (k + 1)).1 = cfa d (0, 1) k * (cf d (rootI d) (0, 1) k).2 - (cf d (rootI d) (0, 1) k).1 := rfl
    obtain ⟨n1, n2⟩ := nrm_step _ _ _ _ _ _ _ _ _ _ _ _ (by omega) h1 h2 h3 hP h4 x
    rw [cst_aL, sg_succ]
    refine ⟨?_, ?_, (cf d (rootI d) (0, 1) k).2, ?_, ?_⟩
    · rw [Int.neg_mul]
      exact n1
    · rw [Int.neg_mul, Int.neg_neg]
      exact n2
    · rw [Int.neg_mul, Int.neg_neg]
      exact h1
    · rw [Int.mul_comm]
      exact x
theorem PellOk.wide (h : PellOk d l) : ∀ k, (cst (aL d k)).1.1.natAbs ≤ 2 ^ (8 * k) ∧ (cst (aL d k)).1.2.natAbs ≤ 2 ^ (8 * k) ∧ (cst (aL d k)).2.1.natAbs ≤ 2 ^ (8 * k) ∧ (cst (aL d k)).2.2.natAbs ≤ 2 ^ (8 * k)
  | 0 => by
    show Int.natAbs 0 ≤ 1 ∧ Int.natAbs 1 ≤ 1 ∧ Int.natAbs 1 ≤ 1 ∧ Int.natAbs 0 ≤ 1
    decide
  | k + 1 => by
    obtain ⟨h1, h2, h3, h4⟩ := h.wide k
    obtain ⟨a0, a1⟩ := h.part k
    rw [cst_aL]
    have e : (2 : Nat) ^ (8 * (k + 1)) = 2 ^ (8 * k) * 256 := by
      rw [Nat.mul_add, Nat.pow_add]
    rw [e]
    have st : ∀ x y : Int, x.natAbs ≤ 2 ^ (8 * k) → y.natAbs ≤ 2 ^ (8 * k) → (cfa d (0, 1) k * x + y).natAbs ≤ 2 ^ (8 * k) * 256 := by
      intro x y hx hy
      have z1 : (cfa d (0, 1) k * x).natAbs = (cfa d (0, 1) k).natAbs * x.natAbs := Int.natAbs_mul _ _
      have z2 : (cfa d (0, 1) k).natAbs * x.natAbs ≤ 200 * 2 ^ (8 * k) := Nat.mul_le_mul (by omega) hx
      generalize (2 : Nat) ^ (8 * k) = B at hx hy z2 ⊢
      omega
    exact ⟨by show (cst (aL d k)).2.1.natAbs ≤ _; omega, by show (cst (aL d k)).2.2.natAbs ≤ _; omega, st _ _ h3 h1, st _ _ h4 h2⟩
/-- how many parts pell takes -/
def pellN (l : Nat) : Nat := if l % 2 = 1 then 2 * l else l
theorem PellOk.hit (h : PellOk d l) {k : Nat} (hk : k < pellN l) : (cst (aL d (k + 1))).2.1 * (cst (aL d (k + 1))).2.1 - d * ((cst (aL d (k + 1))).2.2 * (cst (aL d (k + 1))).2.2) = 1 ↔ k + 1 = pellN l := by
  rw [(h.nrm (k + 1)).1]
  obtain ⟨s1, s2, s3, s4⟩ := h.size (k + 1)
  have hl := h.l0
  have per := h.period k
  have q1 : (cf d (rootI d) (0, 1) (k + 1)).2 = 1 ↔ (k + 1) % l = 0 := by
    by_cases z : k % l + 1 < l
    · have lm := h.least (k % l + 1) (by omega) z
      rw [← per] at lm
      have e : (k + 1) % l = k % l + 1 := by
        rw [Nat.add_mod, Nat.mod_eq_of_lt (show 1 < l by omega), Nat.mod_eq_of_lt z]
      exact ⟨fun y => absurd y lm, fun y => by omega⟩
    · have zl := Nat.mod_lt k (show 0 < l by omega)
      have e2 : k % l + 1 = l := by omega
      have e : (k + 1) % l = 0 := by
        have e3 := Nat.div_add_mod k l
        have e4 : k + 1 = l * (k / l + 1) := by
          rw [Nat.mul_add]
          omega
        rw [e4]
        exact Nat.mul_mod_right _ _
      rw [per, e2]
      exact ⟨fun _ => e, fun _ => h.one⟩
  have sgn : ∀ n, sg n = 1 ∨ sg n = -1 := fun n => by
    unfold sg
    split
    · exact .inl rfl
    · exact .inr rfl
  have s5 : sg (k + 1) * (cf d (rootI d) (0, 1) (k + 1)).2 = 1 ↔ (k + 1) % 2 = 0 ∧ (k + 1) % l = 0 := by
    rw [← q1]
    unfold sg
    by_cases z : (k + 1) % 2 = 0
    · rw [if_pos z]
      exact ⟨fun y => ⟨z, by omega⟩, fun y => by omega⟩
    · rw [if_neg z]
      exact ⟨fun y => by omega, fun y => absurd y.1 z⟩
  rw [s5]
  unfold pellN at hk ⊢
  by_cases odd : l % 2 = 1
  · rw [if_pos odd] at hk ⊢
    constructor
    · rintro ⟨y1, y2⟩
      obtain ⟨c, hc⟩ := Nat.dvd_of_mod_eq_zero y2
      have c1 : c ≠ 1 := fun z => by
        rw [z] at hc
        omega
      have c2 : c ≠ 0 := fun z => by
        rw [z] at hc
        omega
      have c3 : l * 2 ≤ l * c := Nat.mul_le_mul_left _ (by omega)
      omega
    · intro y
      rw [y]
      exact ⟨by omega, Nat.mod_eq_zero_of_dvd ⟨2, by omega⟩⟩
  · rw [if_neg odd] at hk ⊢
    constructor
    · rintro ⟨y1, y2⟩
      obtain ⟨c, hc⟩ := Nat.dvd_of_mod_eq_zero y2
      have c2 : c ≠ 0 := fun z => by
        rw [z] at hc
        omega
      have c3 : l * 1 ≤ l * c := Nat.mul_le_mul_left _ (by omega)
      omega
    · intro y
      rw [y]
      exact ⟨by omega, Nat.mod_self l⟩
end

/-! ### from any pair to a reduced one, and round -/
theorem pig {α : Type} [DecidableEq α] : ∀ (n : Nat) (L : List α) (f : Nat → α), (∀ i, i < n → f i ∈ L) → L.length < n → ∃ i j, i < j ∧ j < n ∧ f i = f j
  | 0, L, f, _, h => absurd h (by omega)
  | n + 1, L, f, hm, h => by
    by_cases z : ∃ i, i < n ∧ f i = f n
    · obtain ⟨i, h1, h2⟩ := z
      exact ⟨i, n, h1, by omega, h2⟩
    · have hn := hm n (by omega)
      have pl := List.length_pos_of_mem hn
      obtain ⟨i, j, h1, h2, h3⟩ := pig n (L.erase (f n)) f (fun i hi => (List.mem_erase_of_ne fun e => z ⟨i, hi, e⟩).mpr (hm i (by omega))) (by rw [List.length_erase_of_mem hn]; omega)
      exact ⟨i, j, h1, by omega, h3⟩
/-- the measures of N up to 108 -/
def msr (N : Nat) : List Nat := ((List.range 108).map (· + 1)).filter fun q => N % q == 0
def msrOk (lo : Nat) : Nat → Bool
  | 0 => true
  | n + 1 => Nat.ble (msr (lo + (n + 1))).length 48 && msrOk lo n
theorem msrOk_1 : msrOk 0 500 = true := by decide +kernel
theorem msrOk_2 : msrOk 500 500 = true := by decide +kernel
theorem msrOk_3 : msrOk 1000 500 = true := by decide +kernel
theorem msrOk_4 : msrOk 1500 500 = true := by decide +kernel
theorem msrOk_5 : msrOk 2000 500 = true := by decide +kernel
theorem msrOk_6 : msrOk 2500 501 = true := by decide +kernel
theorem msrOk_at {lo : Nat} : ∀ {n m : Nat}, msrOk lo n = true → lo + 1 ≤ m → m ≤ lo + n → (msr m).length ≤ 48
  | 0, m, _, h1, h2 => absurd h1 (by omega)
  | n + 1, m, h, h1, h2 => by
    unfold msrOk at h
    rw [Bool.and_eq_true] at h
    by_cases z : m = lo + (n + 1)
    · subst z
      exact Nat.le_of_ble_eq_true h.1
    · exact msrOk_at h.2 h1 (by omega)
theorem msr_len {m : Nat} (h1 : 1 ≤ m) (h2 : m ≤ 3001) : (msr m).length ≤ 48 := by
  by_cases z : m ≤ 500
  · exact msrOk_at msrOk_1 (by omega) (by omega)
  by_cases z : m ≤ 1000
  · exact msrOk_at msrOk_2 (by omega) (by omega)
  by_cases z : m ≤ 1500
  · exact msrOk_at msrOk_3 (by omega) (by omega)
  by_cases z : m ≤ 2000
  · exact msrOk_at msrOk_4 (by omega) (by omega)
  by_cases z : m ≤ 2500
  · exact msrOk_at msrOk_5 (by omega) (by omega)
  · exact msrOk_at msrOk_6 (by omega) (by omega)
theorem fmod_below (a : Int) {b : Int} (h : b < 0) : a.fmod b ≤ 0 ∧ b < a.fmod b := by
  have e := Int.neg_fmod_neg a b
  have h1 := Int.fmod_nonneg_of_pos (-a) (show 0 < -b by omega)
  have h2 := Int.fmod_lt_of_pos (-a) (show 0 < -b by omega)
  rw [e] at h1 h2
  omega
/-- the reduced pairs of d -/
def redL (d : Nat) : Nat → List (Int × Int)
  | 0 => []
  | r + 1 => (msr (d - (r + 1) * (r + 1))).map (fun (q : Nat) => (((r + 1 : Nat) : Int), (q : Int))) ++ redL d r
theorem redL_len (d : Nat) (h : d ≤ 3001) : ∀ r, r * r < d → (redL d r).length ≤ 48 * r
  | 0, _ => Nat.le_refl 0
  | r + 1, hr => by
    have e : (r + 1) * (r + 1) = r * r + 2 * r + 1 := by grind
    have l1 := redL_len d h r (by omega)
    have l2 := msr_len (m := d - (r + 1) * (r + 1)) (by omega) (by omega)
    unfold redL
    rw [List.length_append, List.length_map]
    omega
theorem redL_mem {d : Nat} : ∀ {r p q : Nat}, 1 ≤ p → p ≤ r → 1 ≤ q → q ≤ 108 → (d - p * p) % q = 0 → ((p : Int), (q : Int)) ∈ redL d r
  | 0, p, q, h1, h2, _, _, _ => absurd h1 (by omega)
  | r + 1, p, q, h1, h2, h3, h4, h5 => by
    unfold redL
    rw [List.mem_append]
    by_cases z : p = r + 1
    · subst z
      refine .inl (List.mem_map.mpr ⟨q, ?_, rfl⟩)
      unfold msr
      rw [List.mem_filter]
      refine ⟨List.mem_map.mpr ⟨q - 1, List.mem_range.mpr (by omega), by omega⟩, ?_⟩
      rw [h5]
      rfl
    · exact .inr (redL_mem h1 (by omega) h3 h4 h5)
section
variable {d root : Int}
theorem Red.mem (R : Red d root P Q) (r0 : 0 ≤ root) (r1 : root ≤ 54) (h1 : root * root < d) : (P, Q) ∈ redL d.toNat root.toNat := by
  obtain ⟨q0, p1, lo, hi, dv⟩ := R
  have eP : P = ((P.toNat : Nat) : Int) := by omega
  have eQ : Q = ((Q.toNat : Nat) : Int) := by omega
  rw [eP, eQ]
  refine redL_mem (by omega) (by omega) (by omega) (by omega) ?_
  generalize P.toNat = p at eP
  generalize Q.toNat = q at eQ
  subst eP eQ
  have c1 : (p : Int) * (p : Int) ≤ root * root := Int.mul_le_mul p1 p1 (by omega) r0
  have d0 : 0 ≤ root * root := Int.mul_nonneg r0 r0
  have e1 : ((d.toNat : Nat) : Int) = d := by omega
  have c2 : p * p ≤ d.toNat := by
    have : ((p * p : Nat) : Int) ≤ d := by rw [Int.natCast_mul]; omega
    omega
  have c3 : ((d.toNat - p * p : Nat) : Int) = d - (p : Int) * (p : Int) := by
    rw [Int.ofNat_sub c2, e1, Int.natCast_mul]
  have c4 : ((q : Nat) : Int) ∣ ((d.toNat - p * p : Nat) : Int) := by
    rw [c3]
    exact dv
  exact Nat.mod_eq_zero_of_dvd (Int.natCast_dvd_natCast.mp c4)
/-- nearly reduced -/
structure Bx (d root P Q : Int) : Prop where
  q0 : 0 < Q
  p1 : P ≤ root
  hi : Q ≤ root + P
  dv : Q ∣ d - P * P
theorem Bx.step {P Q : Int} (r0 : 0 ≤ root) (h1 : root * root < d) (h2 : d < (root + 1) * (root + 1)) (R : Bx d root P Q) : Red d root (nxt d root (P, Q)).1 (nxt d root (P, Q)).2 := by
  have ex := nxt_exact (root := root) (Int.ne_of_gt R.q0) R.dv
  obtain ⟨q0, p1, hi, dv⟩ := R
  have e1 : (nxt d root (P, Q)).1 = (P + root) / Q * Q - P := by
    unfold nxt
    show partI P Q root * Q - P = _
    rw [partI_pos q0]
  generalize (nxt d root (P, Q)).1 = P' at ex e1 ⊢
  generalize (nxt d root (P, Q)).2 = Q' at ex ⊢
  have a1 : (P + root) / Q * Q ≤ P + root := Int.ediv_mul_le _ (by omega)
  have a2 : P + root < (P + root) / Q * Q + Q := by
    have z := Int.lt_ediv_add_one_mul_self (P + root) q0
    rw [Int.add_mul, Int.one_mul] at z
    exact z
  have a3 : 1 ≤ (P + root) / Q := by
    have z : 1 * Q ≤ P + root := by omega
    exact (Int.le_ediv_iff_mul_le q0).mpr z
  have a4 : 1 * Q ≤ (P + root) / Q * Q := Int.mul_le_mul_of_nonneg_right a3 (by omega)
  generalize (P + root) / Q * Q = aQ at a1 a2 a4 e1
  have b1 : P' ≤ root := by omega
  have b2 : root - Q < P' := by omega
  have b3 : -root < P' := by omega
  have b4 : Q ≤ root + P' := by omega
  have c1 : P' * P' ≤ root * root := by
    have z : 0 ≤ (root - P') * (root + P') := Int.mul_nonneg (by omega) (by omega)
    have z2 : (root - P') * (root + P') = root * root - P' * P' := by grind
    omega
  have c2 : 0 < Q' * Q := by omega
  have c3 : 0 < Q' := by
    by_cases z : 0 < Q'
    · exact z
    · have z2 : Q' * Q ≤ 0 * Q := Int.mul_le_mul_of_nonneg_right (by omega) (by omega)
      omega
  refine ⟨c3, b1, ?_, ?_, ?_⟩
  · by_cases z : root - P' < Q'
    · exact z
    · have z2 : Q' * Q ≤ (root - P') * (root + P') := Int.mul_le_mul (by omega) b4 (by omega) (by omega)
      have z3 : (root - P') * (root + P') = root * root - P' * P' := by grind
      omega
  · by_cases z : Q' ≤ root + P'
    · exact z
    · have z2 : (root + P' + 1) * (root - P' + 1) ≤ Q' * Q := Int.mul_le_mul (by omega) (by omega) (by omega) (by omega)
      have z3 : (root + P' + 1) * (root - P' + 1) = (root + 1) * (root + 1) - P' * P' := by grind
      omega
  · exact ⟨Q, by omega⟩
/-- a pair on its way -/
structure Wy (d root P Q : Int) : Prop where
  q0 : Q ≠ 0
  dv : Q ∣ d - P * P
theorem nsq (r0 : 0 ≤ root) (h1 : root * root < d) (h2 : d < (root + 1) * (root + 1)) (x : Int) : x * x ≠ d := by
  intro e
  subst e
  by_cases z : 0 ≤ x
  · by_cases y : x ≤ root
    · have := Int.mul_le_mul y y z r0
      omega
    · have := Int.mul_le_mul (show root + 1 ≤ x by omega) (show root + 1 ≤ x by omega) (by omega) z
      omega
  · by_cases y : -x ≤ root
    · have := Int.mul_le_mul y y (by omega) r0
      have e : -x * -x = x * x := by grind
      omega
    · have := Int.mul_le_mul (show root + 1 ≤ -x by omega) (show root + 1 ≤ -x by omega) (by omega) (by omega)
      have e : -x * -x = x * x := by grind
      omega
theorem Wy.step {P Q : Int} (r0 : 0 ≤ root) (h1 : root * root < d) (h2 : d < (root + 1) * (root + 1)) (W : Wy d root P Q) : Wy d root (nxt d root (P, Q)).1 (nxt d root (P, Q)).2 := by
  have ex := nxt_exact (root := root) W.q0 W.dv
  refine ⟨fun z => ?_, ⟨Q, ex.symm⟩⟩
  rw [z, Int.zero_mul] at ex
  exact nsq r0 h1 h2 (nxt d root (P, Q)).1 (by omega)
/-- one step from a pair with Q above 0 -/
theorem step_pos {P Q : Int} (r0 : 0 ≤ root) (h1 : root * root < d) (h2 : d < (root + 1) * (root + 1)) (W : Wy d root P Q) (q0 : 0 < Q) :
    (root - Q < (nxt d root (P, Q)).1 ∧ (nxt d root (P, Q)).1 ≤ root) ∧ (Bx d root (nxt d root (P, Q)).1 (nxt d root (P, Q)).2 ∨ ((nxt d root (P, Q)).1 < -root ∧ (nxt d root (P, Q)).2 < 0 ∧ -(nxt d root (P, Q)).2 < Q)) := by
  have ex := nxt_exact (root := root) W.q0 W.dv
  have W2 := W.step r0 h1 h2
  have e1 : (nxt d root (P, Q)).1 = (P + root) / Q * Q - P := by
    unfold nxt
    show partI P Q root * Q - P = _
    rw [partI_pos q0]
  generalize (nxt d root (P, Q)).1 = P' at ex e1 W2 ⊢
  generalize (nxt d root (P, Q)).2 = Q' at ex W2 ⊢
  have a1 : (P + root) / Q * Q ≤ P + root := Int.ediv_mul_le _ (by omega)
  have a2 : P + root < (P + root) / Q * Q + Q := by
    have z := Int.lt_ediv_add_one_mul_self (P + root) q0
    rw [Int.add_mul, Int.one_mul] at z
    exact z
  generalize (P + root) / Q * Q = aQ at a1 a2 e1
  have b1 : P' ≤ root := by omega
  have b2 : root - Q < P' := by omega
  refine ⟨⟨b2, b1⟩, ?_⟩
  by_cases y : -root ≤ P'
  · refine .inl ⟨?_, b1, ?_, W2.dv⟩
    · have c1 : P' * P' ≤ root * root := by
        have z : 0 ≤ (root - P') * (root + P') := Int.mul_nonneg (by omega) (by omega)
        have z2 : (root - P') * (root + P') = root * root - P' * P' := by grind
        omega
      by_cases z : 0 < Q'
      · exact z
      · have z2 : Q' * Q ≤ 0 * Q := Int.mul_le_mul_of_nonneg_right (by omega) (by omega)
        omega
    · by_cases z : Q' ≤ root + P'
      · exact z
      · have z2 : (root + P' + 1) * (root - P' + 1) ≤ Q' * Q := Int.mul_le_mul (by omega) (by omega) (by omega) (by omega)
        have z3 : (root + P' + 1) * (root - P' + 1) = (root + 1) * (root + 1) - P' * P' := by grind
        omega
  · have c1 : (root + 1) * (root + 1) ≤ -P' * -P' := Int.mul_le_mul (by omega) (by omega) (by omega) (by omega)
    have c2 : -P' * -P' = P' * P' := by grind
    refine .inr ⟨by omega, ?_, ?_⟩
    · by_cases z : Q' < 0
      · exact z
      · have z2 : 0 * Q ≤ Q' * Q := Int.mul_le_mul_of_nonneg_right (by omega) (by omega)
        omega
    · by_cases z : -Q' < Q
      · exact z
      · have z2 : Q * Q ≤ -Q' * Q := Int.mul_le_mul_of_nonneg_right (by omega) (by omega)
        have z4 : -Q' * Q = -(Q' * Q) := by grind
        have z5 : (-P' - root) * (-P' + root) ≤ Q * Q := by
          have y1 : (-P' - root) * (-P' + root) ≤ (-P' - root) * (Q) := Int.mul_le_mul_of_nonneg_left (by omega) (by omega)
          have y2 : (-P' - root) * Q ≤ Q * Q := Int.mul_le_mul_of_nonneg_right (by omega) (by omega)
          omega
        have z6 : (-P' - root) * (-P' + root) = P' * P' - root * root := by grind
        omega
/-- one step from a pair with Q below 0 -/
theorem step_neg {P Q : Int} (r0 : 0 ≤ root) (h1 : root * root < d) (h2 : d < (root + 1) * (root + 1)) (W : Wy d root P Q) (q0 : Q < 0) :
    (root < (nxt d root (P, Q)).1 ∧ (nxt d root (P, Q)).1 ≤ root - Q) ∧ 0 < (nxt d root (P, Q)).2 ∧ (nxt d root (P, Q)).2 ≤ (nxt d root (P, Q)).1 + root ∧ ((nxt d root (P, Q)).2 < -Q ∨ (nxt d root (P, Q)).1 - root ≤ (nxt d root (P, Q)).2) := by
  have ex := nxt_exact (root := root) W.q0 W.dv
  have e1 : (nxt d root (P, Q)).1 = (P + root + 1).fdiv Q * Q - P := by
    unfold nxt
    show partI P Q root * Q - P = _
    unfold partI
    rw [if_neg (by omega)]
  generalize (nxt d root (P, Q)).1 = P' at ex e1 ⊢
  generalize (nxt d root (P, Q)).2 = Q' at ex ⊢
  have a1 := Int.mul_fdiv_add_fmod (P + root + 1) Q
  obtain ⟨a2, a3⟩ := fmod_below (P + root + 1) q0
  rw [Int.mul_comm] at a1
  generalize (P + root + 1).fdiv Q * Q = aQ at a1 e1
  generalize (P + root + 1).fmod Q = m at a1 a2 a3
  have b1 : root < P' := by omega
  have b2 : P' ≤ root - Q := by omega
  have c1 : (root + 1) * (root + 1) ≤ P' * P' := Int.mul_le_mul (by omega) (by omega) (by omega) (by omega)
  have c2 : Q' * Q = -(Q' * -Q) := by grind
  have c3 : 0 < Q' := by
    by_cases z : 0 < Q'
    · exact z
    · have z2 : Q' * -Q ≤ 0 * -Q := Int.mul_le_mul_of_nonneg_right (by omega) (by omega)
      omega
  have c4 : (P' - root) * (P' + root) = P' * P' - root * root := by grind
  refine ⟨⟨b1, b2⟩, c3, ?_, ?_⟩
  · by_cases z : Q' ≤ P' + root
    · exact z
    · have z2 : (P' - root) * (P' + root) ≤ -Q * (P' + root) := Int.mul_le_mul_of_nonneg_right (by omega) (by omega)
      have z3 : -Q * (P' + root) ≤ -Q * Q' := Int.mul_le_mul_of_nonneg_left (by omega) (by omega)
      have z4 : -Q * Q' = Q' * -Q := by grind
      omega
  · by_cases z : Q' < -Q
    · exact .inl z
    · exact .inr (by omega)
/-- from P above the root, not far, to nearly reduced -/
theorem step_far {P Q : Int} (r0 : 0 ≤ root) (h1 : root * root < d) (h2 : d < (root + 1) * (root + 1)) (W : Wy d root P Q) (q0 : 0 < Q) (f1 : Q ≤ P + root) (f2 : P - root ≤ Q) : Bx d root (nxt d root (P, Q)).1 (nxt d root (P, Q)).2 := by
  have e1 : (nxt d root (P, Q)).1 = (P + root) / Q * Q - P := by
    unfold nxt
    show partI P Q root * Q - P = _
    rw [partI_pos q0]
  have a3 : 1 ≤ (P + root) / Q := by
    have z : 1 * Q ≤ P + root := by omega
    exact (Int.le_ediv_iff_mul_le q0).mpr z
  have a4 : 1 * Q ≤ (P + root) / Q * Q := Int.mul_le_mul_of_nonneg_right a3 (by omega)
  obtain ⟨_, h | ⟨h, _⟩⟩ := step_pos r0 h1 h2 W q0
  · exact h
  · omega
/-- within |Q| + 2 steps the walk is at a reduced pair, and stays small before -/
theorem reach (r0 : 0 ≤ root) (h1 : root * root < d) (h2 : d < (root + 1) * (root + 1)) (s : Int × Int) : ∀ (m k : Nat) (P Q : Int), cf d root s k = (P, Q) → Wy d root P Q → Q.natAbs ≤ m →
    ∃ k2, k ≤ k2 ∧ k2 ≤ k + m + 2 ∧ Red d root (cf d root s k2).1 (cf d root s k2).2 ∧ ∀ i, k < i → i ≤ k2 → (cf d root s i).1.natAbs ≤ root.toNat + m ∧ (cf d root s i).2.natAbs ≤ 2 * root.toNat + m
  | 0, k, P, Q, _, W, h => absurd W.q0 (by omega)
  | m + 1, k, P, Q, e, W, h => by
    have e1 : cf d root s (k + 1) = nxt d root (P, Q) := by
      show nxt d root (cf d root s k) = _
      rw [e]
    have W2 := W.step r0 h1 h2
    have fin : ∀ k, Bx d root (cf d root s k).1 (cf d root s k).2 → Red d root (cf d root s (k + 1)).1 (cf d root s (k + 1)).2 := fun k B => B.step r0 h1 h2
    have szB : ∀ k, Bx d root (cf d root s k).1 (cf d root s k).2 → (cf d root s k).1.natAbs ≤ root.toNat + (m + 1) ∧ (cf d root s k).2.natAbs ≤ 2 * root.toNat + (m + 1) := fun k B => by
      have := B.q0
      have := B.p1
      have := B.hi
      omega
    have szR : ∀ k, Red d root (cf d root s k).1 (cf d root s k).2 → (cf d root s k).1.natAbs ≤ root.toNat + (m + 1) ∧ (cf d root s k).2.natAbs ≤ 2 * root.toNat + (m + 1) := fun k B => by
      have := B.q0
      have := B.p1
      have := B.hi
      omega
    have go : (cf d root s (k + 1)).2.natAbs ≤ m → ((cf d root s (k + 1)).1.natAbs ≤ root.toNat + (m + 1)) → ∃ k2, k ≤ k2 ∧ k2 ≤ k + (m + 1) + 2 ∧ Red d root (cf d root s k2).1 (cf d root s k2).2 ∧ ∀ i, k < i → i ≤ k2 → (cf d root s i).1.natAbs ≤ root.toNat + (m + 1) ∧ (cf d root s i).2.natAbs ≤ 2 * root.toNat + (m + 1) := fun z z2 => by
      obtain ⟨k2, g1, g2, g3, g4⟩ := reach r0 h1 h2 s m (k + 1) (cf d root s (k + 1)).1 (cf d root s (k + 1)).2 rfl (by rw [e1]; exact W2) z
      refine ⟨k2, by omega, by omega, g3, fun i i1 i2 => ?_⟩
      by_cases y : i = k + 1
      · subst y
        omega
      · obtain ⟨y1, y2⟩ := g4 i (by omega) i2
        omega
    by_cases q0 : 0 < Q
    · obtain ⟨⟨u1, u2⟩, h | ⟨h3, h4, h5⟩⟩ := step_pos r0 h1 h2 W q0
      · rw [← e1] at h
        refine ⟨k + 2, by omega, by omega, fin _ h, fun i i1 i2 => ?_⟩
        by_cases y : i = k + 1
        · subst y
          exact szB _ h
        · have y2 : i = k + 1 + 1 := by omega
          subst y2
          exact szR _ (fin _ h)
      · rw [← e1] at u1 u2 h3 h4 h5
        have z1 : (cf d root s (k + 1)).2.natAbs ≤ m := by
          clear go fin szB szR
          generalize (cf d root s (k + 1)).2 = Y at h4 h5 ⊢
          omega
        have z2 : (cf d root s (k + 1)).1.natAbs ≤ root.toNat + (m + 1) := by
          clear go fin szB szR
          generalize (cf d root s (k + 1)).1 = Y at u1 u2 h3 ⊢
          omega
        exact go z1 z2
    · obtain ⟨⟨u1, u2⟩, u3, u4, h3 | h3⟩ := step_neg r0 h1 h2 W (by have := W.q0; omega)
      · rw [← e1] at u1 u2 u3 h3
        have z1 : (cf d root s (k + 1)).2.natAbs ≤ m := by
          clear go fin szB szR
          generalize (cf d root s (k + 1)).2 = Y at u3 h3 ⊢
          omega
        have z2 : (cf d root s (k + 1)).1.natAbs ≤ root.toNat + (m + 1) := by
          clear go fin szB szR
          generalize (cf d root s (k + 1)).1 = Y at u1 u2 ⊢
          omega
        exact go z1 z2
      · have B := step_far r0 h1 h2 W2 u3 u4 h3
        have B2 : Bx d root (cf d root s (k + 1 + 1)).1 (cf d root s (k + 1 + 1)).2 := by
          have e2 : cf d root s (k + 1 + 1) = nxt d root (nxt d root (P, Q)) := by
            show nxt d root (cf d root s (k + 1)) = _
            rw [e1]
          rw [e2]
          exact B
        rw [← e1] at u1 u2 u3 u4
        refine ⟨k + 3, by omega, by omega, fin _ B2, fun i i1 i2 => ?_⟩
        by_cases y : i = k + 1
        · subst y
          clear go fin szB szR B B2
          generalize (cf d root s (k + 1)).1 = X at u1 u2 u4 ⊢
          generalize (cf d root s (k + 1)).2 = Y at u3 u4 ⊢
          omega
        · by_cases y2 : i = k + 1 + 1
          · subst y2
            exact szB _ B2
          · have y3 : i = k + 1 + 1 + 1 := by omega
            subst y3
            exact szR _ (fin _ B2)
theorem red_on (r0 : 0 ≤ root) (h1 : root * root < d) (h2 : d < (root + 1) * (root + 1)) (s : Int × Int) (k : Nat) (R : Red d root (cf d root s k).1 (cf d root s k).2) : ∀ j, Red d root (cf d root s (k + j)).1 (cf d root s (k + j)).2
  | 0 => R
  | j + 1 => (red_on r0 h1 h2 s k R j).step r0 h1 h2
end
theorem first_of {p : Nat → Prop} : ∀ (n : Nat), (∃ m, m ≤ n ∧ p m) → ∃ m, m ≤ n ∧ p m ∧ ∀ k, k < m → ¬ p k
  | 0, ⟨m, h1, h3⟩ => ⟨m, h1, h3, fun k hk => absurd hk (by omega)⟩
  | n + 1, ⟨m, h1, h3⟩ => by
    by_cases z : ∃ m, m ≤ n ∧ p m
    · obtain ⟨k, k2, k3, k4⟩ := first_of n z
      exact ⟨k, by omega, k3, k4⟩
    · have e : m = n + 1 := by
        by_cases y : m ≤ n
        · exact absurd ⟨m, y, h3⟩ z
        · omega
      subst e
      exact ⟨n + 1, h1, h3, fun k k2 k3 => z ⟨k, by omega, k3⟩⟩
/-- the walk of the law's pairs comes round within 2,900 steps -/
theorem ex_ok {p q d : Int} (d0 : 0 ≤ d) (d1 : d ≤ 3001) (hns : rootI d * rootI d ≠ d) (q0 : q ≠ 0) (hdv : (d - p * p).fmod q = 0) (hq : q.natAbs ≤ 200) (hp : p.natAbs ≤ 1000000) : ∃ n j, ExOk p q d n j ∧ n ≤ 2900 ∧ ∀ i, (cf d (rootI d) (p, q) i).1.natAbs ≤ 1000300 ∧ (cf d (rootI d) (p, q) i).2.natAbs ≤ 400 := by
  obtain ⟨a, b, c⟩ := rootI_spec (n := d) d0
  have h1 : rootI d * rootI d < d := by omega
  have r54 : rootI d ≤ 54 := by
    by_cases z : rootI d ≤ 54
    · exact z
    · have := Int.mul_le_mul (show 55 ≤ rootI d by omega) (show 55 ≤ rootI d by omega) (by decide) a
      omega
  have W : Wy d (rootI d) p q := ⟨q0, Int.dvd_of_fmod_eq_zero hdv⟩
  obtain ⟨k2, g1, g2, g3, g4⟩ := reach a h1 c (p, q) 200 0 p q rfl W hq
  have on := red_on a h1 c (p, q) k2 g3
  have len : (redL d.toNat (rootI d).toNat).length ≤ 48 * (rootI d).toNat := by
    refine redL_len _ (by omega) _ ?_
    have : (((rootI d).toNat * (rootI d).toNat : Nat) : Int) < d := by
      rw [Int.natCast_mul, Int.toNat_of_nonneg a]
      exact h1
    omega
  obtain ⟨i, j, ij, jn, eq⟩ := pig (2593) (redL d.toNat (rootI d).toNat) (fun i => cf d (rootI d) (p, q) (k2 + i)) (fun i _ => (on i).mem a r54 h1) (by omega)
  obtain ⟨n, n1, ⟨j0, j1, j2⟩, n3⟩ := first_of (p := fun n => ∃ j, j < n ∧ cf d (rootI d) (p, q) n = cf d (rootI d) (p, q) j) (k2 + j) ⟨k2 + j, Nat.le_refl _, k2 + i, by omega, eq.symm⟩
  have sz : ∀ i, (cf d (rootI d) (p, q) i).1.natAbs ≤ 1000300 ∧ (cf d (rootI d) (p, q) i).2.natAbs ≤ 400 := by
    intro i
    by_cases y : i = 0
    · subst y
      exact ⟨show p.natAbs ≤ 1000300 by omega, show q.natAbs ≤ 400 by omega⟩
    · by_cases y2 : i ≤ k2
      · obtain ⟨w1, w2⟩ := g4 i (by omega) y2
        exact ⟨by omega, by omega⟩
      · have R := on (i - k2)
        rw [show k2 + (i - k2) = i by omega] at R
        have := R.q0
        have := R.p1
        have := R.hi
        exact ⟨by omega, by omega⟩
  refine ⟨n, j0, ⟨d0, by omega, hns, q0, hdv, j1, by omega, j2, fun x y xy yn e => n3 y yn ⟨x, xy, e.symm⟩, fun i hi => ?_⟩, by omega, sz⟩
  have nz : ∀ i, Wy d (rootI d) (cf d (rootI d) (p, q) i).1 (cf d (rootI d) (p, q) i).2 := by
    intro i
    induction i with
    | zero => exact W
    | succ i ih => exact ih.step a h1 c
  exact ⟨Nat.lt_of_le_of_lt (sz i).1 (by decide), Nat.lt_of_le_of_lt (sz i).2 (by decide), (nz i).q0⟩
/-- the law's own part, by halving -/
theorem atmost_pos {n p q d : Int} (d0 : 0 ≤ d) (q0 : 0 < q) : (n * q - p < 0 ∨ (n * q - p) * (n * q - p) ≤ d) ↔ n ≤ partI p q (rootI d) := by
  obtain ⟨a, b, c⟩ := rootI_spec (n := d) d0
  rw [partI_pos q0, Int.le_ediv_iff_mul_le q0]
  generalize n * q = x
  constructor
  · rintro (h | h)
    · omega
    · by_cases z : x - p ≤ rootI d
      · omega
      · have := Int.mul_le_mul (show rootI d + 1 ≤ x - p by omega) (show rootI d + 1 ≤ x - p by omega) (by omega) (by omega)
        omega
  · intro h
    by_cases z : x - p < 0
    · exact .inl z
    · have := Int.mul_le_mul (show x - p ≤ rootI d by omega) (show x - p ≤ rootI d by omega) (by omega) a
      exact .inr (by omega)
theorem atmost_neg {n p q d : Int} (d0 : 0 ≤ d) (hns : rootI d * rootI d ≠ d) (q0 : q < 0) : (0 < n * q - p ∧ d ≤ (n * q - p) * (n * q - p)) ↔ n ≤ partI p q (rootI d) := by
  obtain ⟨a, b, c⟩ := rootI_spec (n := d) d0
  have e : partI p q (rootI d) = (p + rootI d + 1).fdiv q := by
    unfold partI
    rw [if_neg (by omega)]
  rw [e]
  have a1 := Int.mul_fdiv_add_fmod (p + rootI d + 1) q
  obtain ⟨a2, a3⟩ := fmod_below (p + rootI d + 1) q0
  generalize (p + rootI d + 1).fmod q = m at a1 a2 a3
  generalize (p + rootI d + 1).fdiv q = f at a1
  constructor
  · rintro ⟨h1, h2⟩
    by_cases z : n ≤ f
    · exact z
    · have y1 : q * n ≤ q * (f + 1) := Int.mul_le_mul_of_nonpos_left (by omega) (by omega)
      rw [Int.mul_comm q n, Int.mul_add, Int.mul_one] at y1
      have := Int.mul_le_mul (show n * q - p ≤ rootI d by omega) (show n * q - p ≤ rootI d by omega) (by omega) a
      omega
  · intro h
    have y1 : q * f ≤ q * n := Int.mul_le_mul_of_nonpos_left (by omega) h
    rw [Int.mul_comm q n] at y1
    have := Int.mul_le_mul (show rootI d + 1 ≤ n * q - p by omega) (show rootI d + 1 ≤ n * q - p by omega) (by omega) (by omega)
    exact ⟨by omega, by omega⟩

theorem shaped_two (xs ys : List Int) : SeqAt.shaped (.tuple [.tuple (xs.map PyData.int), .tuple (ys.map PyData.int)]) = true := by
  show (PyData.canLay0 (.tuple [.tuple (xs.map PyData.int), .tuple (ys.map PyData.int)]) && decide (PyData.depth (.tuple [.tuple (xs.map PyData.int), .tuple (ys.map PyData.int)]) ≤ 64)) = true
  rw [Bool.and_eq_true]
  refine ⟨?_, decide_eq_true ?_⟩
  · rw [PyData.canLay0, PyData.canLayAll0, PyData.canLayAll0, PyData.canLayAll0, PyData.canLay0, PyData.canLay0, lay_ints, lay_ints]
    rfl
  · rw [PyData.depth, PyData.depthAll, PyData.depthAll, PyData.depthAll, PyData.depth, PyData.depth, depth_ints, depth_ints]
    decide
theorem tne {H : Hp} {p a : Addr} {N : Nat} {xs : List V} (h : H p = some (.tup xs)) (d : Dw H p a N) : False := by
  obtain ⟨m, ns, h1, h2, h3, h4⟩ := d
  rw [h3] at h
  cases h
theorem rep_at {ys : List Int} : ∀ (n m : Nat), m < n * ys.length → ((List.replicate n ys).flatten)[m]? = ys[m % ys.length]?
  | 0, m, h => by
    rw [Nat.zero_mul] at h
    omega
  | n + 1, m, h => by
    rw [List.replicate_succ, List.flatten_cons]
    rw [Nat.succ_mul] at h
    by_cases z : m < ys.length
    · rw [List.getElem?_append_left z, Nat.mod_eq_of_lt z]
    · rw [List.getElem?_append_right (by omega), rep_at n (m - ys.length) (by omega), Nat.mod_eq_sub_mod (a := m) (by omega)]
theorem rep_map (ys : List Int) : ∀ n, (List.replicate n (ys.map V.int)).flatten = ((List.replicate n ys).flatten).map V.int
  | 0 => rfl
  | n + 1 => by
    rw [List.replicate_succ, List.replicate_succ, List.flatten_cons, List.flatten_cons, List.map_append, rep_map ys n]
theorem rep_len (ys : List Int) : ∀ n, ((List.replicate n ys).flatten).length = n * ys.length
  | 0 => by simp
  | n + 1 => by
    rw [List.replicate_succ, List.flatten_cons, List.length_append, rep_len ys n, Nat.succ_mul]
    omega
theorem due_at {pl : List Int} {j k : Nat} {v : Int} (hj : j < pl.length) (h : (pl ++ (List.replicate 60 (pl.drop j)).flatten)[k]? = some v) (hk : k < pl.length + 60 * (pl.length - j)) :
    (k < (pl.take j).length → (pl.take j)[k]? = some v) ∧ ((pl.take j).length ≤ k → (pl.drop j)[(k - (pl.take j).length) % (pl.drop j).length]? = some v) := by
  rw [List.length_take, List.length_drop, Nat.min_eq_left (by omega)]
  by_cases z : k < pl.length
  · rw [List.getElem?_append_left z] at h
    refine ⟨fun y => ?_, fun y => ?_⟩
    · rw [List.getElem?_take_of_lt y]
      exact h
    · rw [Nat.mod_eq_of_lt (by omega), List.getElem?_drop, show j + (k - j) = k by omega]
      exact h
  · rw [List.getElem?_append_right (by omega), rep_at 60 _ (by rw [List.length_drop]; omega), List.length_drop] at h
    refine ⟨fun y => by omega, fun y => ?_⟩
    rw [show k - j = (k - pl.length) + (pl.length - j) by omega, Nat.add_mod_right]
    exact h
theorem small1000' {n : Nat} (h : n ≤ 10000) : n < sizeLine := Nat.lt_of_le_of_lt h (by decide)
section
variable {P : Program} {w : World} {K : PySem.W.Frag} {mg : Str → Option Value} {base : Heap} {fa : Nat → Addr} {fd : Nat → FuncData}
def spFloorRoot (_ : PySem.W.Frag) : Sp := fun vs H Q _ => ∃ n : Int, vs = [.int n] ∧ 0 ≤ n ∧ n.natAbs < 2 ^ 13000 ∧ Q (.int (rootI n)) H
theorem okFloorRoot (T : Txt K mg fa fd) : FnOk P w K mg base CX0 1 (fa 0) (fd 0) ["n"] (spFloorRoot K) := by
  refine T.F_floor_root.ok scFloorRoot (fun vs H Q E h => ?_) (fun cdv A outer s H vs Q E hr h => ?_)
  · obtain ⟨n, rfl, h0, h1, q⟩ := h
    rfl
  · obtain ⟨n, rfl, h0, h1, q⟩ := h
    refine ⟨_, (pss_one (ps_ret (pe_callBfun cr_isqrt (by rfl) T.g_isqrt (pa_cons (pv 0) pa_nil)))), ?_⟩
    exact ⟨_, rfl, _, rfl, h0, h1, q⟩
def spIsSquare (_ : PySem.W.Frag) : Sp := fun vs H Q _ => ∃ n : Int, vs = [.int n] ∧ n.natAbs < 2 ^ 13000 ∧ Q (.bl (decide (0 ≤ n ∧ rootI n * rootI n = n))) H
theorem okIsSquare (T : Txt K mg fa fd) : FnOk P w K mg base CX0 2 (fa 1) (fd 1) ["n"] (spIsSquare K) := by
  refine T.F_is_square.ok scIsSquare (fun vs H Q E h => ?_) (fun cdv A outer s H vs Q E hr h => ?_)
  · obtain ⟨n, rfl, h1, q⟩ := h
    rfl
  · obtain ⟨n, rfl, h1, q⟩ := h
    refine ⟨_, (pss_cons (ps_if (pt_cmp (pc_lt (pv 0) pe_int))
      (pss_one (ps_ret pe_bl))
      pss_nil)
      (pss_cons (ps_set (i := 1) scIsSquare.nd rfl (Or.inl rfl) (pe_call (okFloorRoot T) hr (by rfl) T.G_floor_root T.F_floor_root.kp T.B_floor_root .nil pass0 (pa_cons (pv 0) pa_nil)))
      (pss_one (ps_ret (pe_cmp (pc_eqI (pe_op op_mulW (pv 1) (pv 1)) (pv 0))))))), ?_⟩
    refine ⟨_, rfl, _, _, rfl, rfl, _, rfl, ite2 (fun e => ?_) (fun e => ?_)⟩
    · have e1 : n < 0 := of_decide_eq_true e
      have e2 : decide (0 ≤ n ∧ rootI n * rootI n = n) = false := decide_eq_false fun z => by omega
      rw [e2] at q
      exact q
    · have e1 : ¬ n < 0 := fun z => e (decide_eq_true z)
      have h0 : 0 ≤ n := by omega
      have hr := rootI_lt h0 h1
      refine ⟨_, rfl, n, rfl, h0, h1, _, rfl, _, rfl, _, _, rfl, rfl, wide_mul hr hr (by decide) (by decide) (by decide), _, rfl, _, _, rfl, rfl, ?_⟩
      have e2 : decide (0 ≤ n ∧ rootI n * rootI n = n) = decide (rootI n * rootI n = n) := by
        rw [decide_eq_decide]
        exact ⟨fun z => z.2, fun z => ⟨h0, z⟩⟩
      rw [e2] at q
      exact q
def spPartOf (_ : PySem.W.Frag) : Sp := fun vs H Q _ => ∃ p q r : Int, vs = [.int p, .int q, .int r] ∧ q ≠ 0 ∧ q.natAbs < 2 ^ 60 ∧ Q (.int (partI p q r)) H
theorem okPartOf (T : Txt K mg fa fd) : FnOk P w K mg base CX0 1 (fa 3) (fd 3) ["p", "q", "root"] (spPartOf K) := by
  refine T.F__part_of.ok scPartOf (fun vs H Q E h => ?_) (fun cdv A outer s H vs Q E hr h => ?_)
  · obtain ⟨p, q, r, rfl, h0, h1, Qd⟩ := h
    rfl
  · obtain ⟨p, q, r, rfl, h0, h1, Qd⟩ := h
    refine ⟨_, (pss_cons (ps_if (pt_cmp (pc_gt (pv 1) pe_int))
      (pss_one (ps_ret (pe_op op_fdivX (pe_op op_add (pv 0) (pv 2)) (pv 1))))
      pss_nil)
      (pss_one (ps_ret (pe_op op_fdivX (pe_op op_add (pe_op op_add (pv 0) (pv 2)) pe_int) (pv 1))))), ?_⟩
    have h2 : q.natAbs < 2 ^ 9000 := pow_up h1 (by decide)
    unfold partI at Qd
    refine ⟨_, rfl, _, _, rfl, rfl, _, rfl, way2 (fun h => ?_) (fun h => ?_)⟩
    · rw [if_pos h] at Qd
      exact ⟨_, rfl, _, rfl, _, _, rfl, rfl, _, rfl, _, _, rfl, rfl, ⟨h0, h2⟩, Qd⟩
    · rw [if_neg h] at Qd
      exact ⟨_, rfl, _, rfl, _, _, rfl, rfl, _, _, rfl, rfl, _, rfl, _, _, rfl, rfl, ⟨h0, h2⟩, Qd⟩
def spExpand (_ : PySem.W.Frag) : Sp := fun vs H Q _ => ∃ (p q d : Int) (n j : Nat), vs = [.int p, .int q, .int d] ∧ ExOk p q d n j ∧
  ∀ H' t t1 t2, Same H H' → H' t = some (.tup [.ref t1, .ref t2]) → H' t1 = some (.tup ((((List.range n).map (cfa d (p, q))).take j).map V.int)) → H' t2 = some (.tup ((((List.range n).map (cfa d (p, q))).drop j).map V.int)) → Q (.ref t) H'
theorem okExpand (T : Txt K mg fa fd) : FnOk P w K mg base CX0 3 (fa 2) (fd 2) ["p", "q", "d"] (spExpand K) := by
  refine T.F_expand.ok scExpand (fun vs H Q E h => ?_) (fun cdv A outer s H vs Q E hr h => ?_)
  · obtain ⟨p, q, d, n, j, rfl, hE, Qd⟩ := h
    rfl
  · obtain ⟨p, q, d, n, j, rfl, hE, Qd⟩ := h
    refine ⟨_, (pss_cons (ps_if (PW.pt (pw_or (pt_val (pe_call (okIsSquare T) hr (by rfl) T.G_is_square T.F_is_square.kp T.B_is_square .nil pass0 (pa_cons (pv 2) pa_nil))) (pw_or (pt_cmp (pc_eqI (pv 1) pe_int)) (pw_or1 (pt_cmp (pc_neI (pe_op op_modN (pe_op op_sub (pv 2) (pe_op op_mul (pv 0) (pv 0))) (pv 1)) pe_int))))))
      (pss_one ps_never)
      pss_nil)
      (pss_cons (ps_set (i := 3) scExpand.nd rfl (Or.inl rfl) (pe_call (okFloorRoot T) (hr.mono (by decide)) (by rfl) T.G_floor_root T.F_floor_root.kp T.B_floor_root .nil pass0 (pa_cons (pv 2) pa_nil)))
      (pss_cons (ps_set (i := 4) scExpand.nd rfl (Or.inl rfl) pe_dnewT)
      (pss_cons (ps_set (i := 5) scExpand.nd rfl (Or.inl rfl) (pe_lst pa_nil))
      (pss_cons (ps_while PassesOwn.never (pt_cmp (pc_dnotin (hu_of hr) (pe_tup (pa_cons (pv 0) (pa_cons (pv 1) pa_nil))) (pv 4)))
      (pss_cons (ps_dput (hu_of hr) (pv 4) (pe_tup (pa_cons (pv 0) (pa_cons (pv 1) pa_nil))) (pe_callB (lenQ K) (by rfl) T.m_len (by decide +kernel) (pa_cons (pv 5) pa_nil)) rfl)
        (pss_cons (ps_set (i := 6) scExpand.nd rfl (Or.inl rfl) (pe_call (okPartOf T) (hr.mono (by decide)) (by rfl) T.G__part_of T.F__part_of.kp T.B__part_of .nil pass0 (pa_cons (pv 0) (pa_cons (pv 1) (pa_cons (pv 3) pa_nil)))))
        (pss_cons (ps_expr (pe_bm PySem.F.plainAttrs_list PySem.F.slot_list_append PySem.F.type_list_append mt_append (pv 5) (pa_cons (pv 6) pa_nil)))
        (pss_cons (ps_set (i := 0) scExpand.nd rfl (Or.inl rfl) (pe_op op_sub (pe_op op_mul (pv 6) (pv 1)) (pv 0)))
        (pss_one (ps_set (i := 1) scExpand.nd rfl (Or.inl rfl) (pe_op op_fdivX (pe_op op_sub (pv 2) (pe_op op_mul (pv 0) (pv 0))) (pv 1)))))))))
      (pss_cons (ps_set (i := 7) scExpand.nd rfl (Or.inl rfl) (pe_dget (hu_of hr) (pv 4) (pe_tup (pa_cons (pv 0) (pa_cons (pv 1) pa_nil))) (fun _ _ => rfl)))
      (pss_one (ps_ret (pe_tup (pa_cons (pe_callTy (tupQ K) (by rfl) T.m_tuple (by decide +kernel) (pa_cons (pe_slice (slL K) (pv 5) po_none (po_some (pv 7))) pa_nil)) (pa_cons (pe_callTy (tupQ K) (by rfl) T.m_tuple (by decide +kernel) (pa_cons (pe_slice (slL K) (pv 5) (po_some (pv 7)) po_none) pa_nil)) pa_nil))))))))))), ?_⟩
    obtain ⟨hd0, hd1, hns, hq0, hdv, hjn, hn, hrep, hun, hsz⟩ := hE
    have hd2 : d < 1152921504606846976 := hd1
    obtain ⟨p60, q60, _⟩ := hsz 0 (by omega)
    have p61 : p.natAbs < 1152921504606846976 := p60
    have q61 : q.natAbs < 1152921504606846976 := q60
    have d13 : d.natAbs < 2 ^ 13000 := pow_up (a := 60) (by show d.natAbs < 1152921504606846976; omega) (by decide)
    refine ⟨_, rfl, d, rfl, d13, _, rfl, wayF (fun z => hns z.2) ?_⟩
    refine ⟨_, rfl, _, _, rfl, rfl, _, rfl, wayF hq0 ?_⟩
    refine ⟨_, rfl, _, rfl, _, rfl, _, _, rfl, rfl, .inl ⟨by omega, by omega⟩, _, _, rfl, rfl, _, rfl, _, _, rfl, rfl, hq0, _, _, rfl, rfl, _, rfl, wayNF hdv ?_⟩
    refine ⟨_, rfl, d, rfl, hd0, d13, ?_⟩
    refine fun dp ndp => ⟨Nat.zero_le _, fun pp npp => ?_⟩
    have npp0 : H pp = none := by
      cases e : H pp with
      | none => rfl
      | some o =>
        rw [same_upd ndp _ _ e] at npp
        cases npp
    have dpp : dp ≠ pp := ne_of_none (upd_same (H := H) (o := .dT [])) npp
    let f : Nat → Int × Int := cf d (rootI d) (p, q)
    have hf : ∀ i, f (i + 1) = nxt d (rootI d) (f i) := fun i => rfl
    refine ⟨fun m σ H' => ∃ (i : Nat) (x6 : Option V), σ = [some (.int (f i).1), some (.int (f i).2), some (.int d), some (.int (rootI d)), some (.ref dp), some (.ref pp), x6, none] ∧ i ≤ n ∧ m = n - i ∧ Same H H' ∧ H' dp = some (.dT (ckv f i)) ∧ H' pp = some (.lst (((List.range i).map (cfa d (p, q))).map V.int)),
      ⟨n, 0, none, rfl, by omega, by omega, (same_upd ndp).trans (same_upd npp), ?_, upd_same⟩, ?_⟩
    · rw [upd_ne dpp]
      exact upd_same
    rintro m σ H' ⟨i, x6, rfl, hi, rfl, hs, hdp, hpp⟩
    obtain ⟨s1, s2, s3⟩ := hsz i hi
    have s1' : (f i).1.natAbs < 1152921504606846976 := s1
    have s2' : (f i).2.natAbs < 1152921504606846976 := s2
    refine ⟨_, rfl, _, rfl, by show 2 ≤ sizeLine; decide, fun t nt => ?_⟩
    have hdp2 := same_upd (o := .tup [.int (f i).1, .int (f i).2]) nt _ _ hdp
    have hpp2 := same_upd (o := .tup [.int (f i).1, .int (f i).2]) nt _ _ hpp
    refine ⟨_, rfl, dp, _, rfl, DGet.t (k := ckey (f i)) hdp2 upd_same, ?_⟩
    by_cases hin : i < n
    · have hno : ∀ a, a < i → f a ≠ f i := fun a ha => hun a i ha hin
      rw [ckv_none hno]
      refine ⟨_, rfl, iteT ?_⟩
      refine ⟨fun σ' H2 => ∃ (x6 : Option V), σ' = [some (.int (f (i + 1)).1), some (.int (f (i + 1)).2), some (.int d), some (.int (rootI d)), some (.ref dp), some (.ref pp), x6, none] ∧ Same H H2 ∧ H2 dp = some (.dT (ckv f (i + 1))) ∧ H2 pp = some (.lst (((List.range (i + 1)).map (cfa d (p, q))).map V.int)), ?_, ?_⟩
      · rintro σ' H2 ⟨x6', e1, e2, e3, e4⟩
        exact ⟨n - (i + 1), by omega, i + 1, x6', e1, by omega, rfl, e2, e3, e4⟩
      · refine ⟨_, rfl, _, _, rfl, .inl (SqL.of hpp2), _, rfl, _, rfl, _, rfl, by show 2 ≤ sizeLine; decide, fun t2 nt2 => ?_⟩
        rw [show ((((List.range i).map (cfa d (p, q))).map V.int).length : Int) = (i : Int) by simp]
        have hdp3 := same_upd (o := .tup [.int (f i).1, .int (f i).2]) nt2 _ _ hdp2
        have hpp3 := same_upd (o := .tup [.int (f i).1, .int (f i).2]) nt2 _ _ hpp2
        have hs3 : Same H (upd (upd H' t (.tup [.int (f i).1, .int (f i).2])) t2 (.tup [.int (f i).1, .int (f i).2])) := (hs.trans (same_upd nt)).trans (same_upd nt2)
        refine ⟨dp, _, rfl, DPut.t (k := ckey (f i)) hdp3 upd_same ?_, ?_⟩
        · rw [ckv_len]
          exact Nat.lt_of_lt_of_le (Nat.lt_of_lt_of_le hin hn) (by decide)
        rw [ckv_put hno]
        generalize upd (upd H' t (.tup [.int (f i).1, .int (f i).2])) t2 (.tup [.int (f i).1, .int (f i).2]) = H4 at hdp3 hpp3 hs3 ⊢
        have hs4 : Same H (upd H4 dp (.dT (ckv f (i + 1)))) := same_mut hs3 ndp
        have hpp4 : (upd H4 dp (.dT (ckv f (i + 1)))) pp = some (.lst (((List.range i).map (cfa d (p, q))).map V.int)) := by
          rw [upd_ne dpp.symm]
          exact hpp3
        have hdp4 : (upd H4 dp (.dT (ckv f (i + 1)))) dp = some (.dT (ckv f (i + 1))) := upd_same
        generalize upd H4 dp (.dT (ckv f (i + 1))) = H5 at hs4 hpp4 hdp4 ⊢
        refine ⟨_, rfl, _, rfl, _, rfl, _, _, _, rfl, s3, s2, ?_⟩
        refine ⟨_, rfl, .inl ⟨rfl, _, SqL.of hpp4⟩, _, rfl, _, _, _, rfl, rfl, hpp4, ?_, ?_⟩
        · rw [List.length_map, List.length_map, List.length_range]
          exact Nat.lt_of_lt_of_le (Nat.lt_of_lt_of_le hin hn) (by decide)
        refine ⟨_, rfl, _, rfl, _, _, rfl, rfl, .inr ⟨by omega, by omega⟩, _, rfl, _, _, rfl, rfl, ?_⟩
        obtain ⟨w1, w2, w3⟩ := hsz (i + 1) (by omega)
        have w1' : (f (i + 1)).1.natAbs < 1152921504606846976 := w1
        have e1 : partI (f i).1 (f i).2 (rootI d) * (f i).2 - (f i).1 = (f (i + 1)).1 := rfl
        have bnd : -(2 ^ 64) < partI (f i).1 (f i).2 (rootI d) * (f i).2 - (f i).1 ∧ partI (f i).1 (f i).2 (rootI d) * (f i).2 - (f i).1 < 2 ^ 64 := by
          rw [e1]
          omega
        refine ⟨_, rfl, _, rfl, _, rfl, _, _, rfl, rfl, .inl bnd, _, _, rfl, rfl, _, rfl, _, _, rfl, rfl, ⟨s3, pow_up s2 (by decide)⟩, ?_⟩
        refine ⟨_, rfl, same_mut hs4 npp0, ?_, ?_⟩
        · rw [upd_ne dpp]
          exact hdp4
        · rw [upd_same, List.range_succ, List.map_append, List.map_append]
          rfl
    · have ein : i = n := by omega
      subst ein
      have hj : valV (ckv f i) (ckey (f i)) = some (.int (j : Int)) := ckv_some (j := j) hrep.symm hjn fun a ha => fun e => hun a j ha hjn (e.trans hrep)
      rw [hj]
      refine ⟨_, rfl, iteF ?_⟩
      have hs2 : Same H (upd H' t (.tup [.int (f i).1, .int (f i).2])) := hs.trans (same_upd nt)
      generalize upd H' t (.tup [.int (f i).1, .int (f i).2]) = H2 at hdp2 hpp2 hs2 ⊢
      refine ⟨_, rfl, _, rfl, _, rfl, by show 2 ≤ sizeLine; decide, fun t2 nt2 => ?_⟩
      have hdp3 := same_upd (o := .tup [.int (f i).1, .int (f i).2]) nt2 _ _ hdp2
      have hpp3 := same_upd (o := .tup [.int (f i).1, .int (f i).2]) nt2 _ _ hpp2
      refine ⟨dp, .int (j : Int), rfl, ?_, ?_⟩
      · rw [← hj]
        exact DGet.t (k := ckey (f i)) hdp3 upd_same
      have hs3 := hs2.trans (same_upd (o := .tup [.int (f i).1, .int (f i).2]) nt2)
      generalize upd H2 t2 (.tup [.int (f i).1, .int (f i).2]) = H3 at hpp3 hs3 ⊢
      refine ⟨_, rfl, _, rfl, _, rfl, pp, _, rfl, SqL.of hpp3, fun c nc => ⟨c, _, rfl, .inl ⟨SqL.of upd_same, fun t1 nt1 => ?_⟩⟩⟩
      rw [cut_to]
      have sA := same_upd (o := .lst ((((List.range i).map (cfa d (p, q))).take j).map V.int)) nc
      have sB := same_upd (o := .tup ((((List.range i).map (cfa d (p, q))).take j).map V.int)) nt1
      rw [cut_to] at nt1 sB
      have hpp4 := sB _ _ (sA _ _ hpp3)
      have ht1 : (upd (upd H3 c (.lst ((((List.range i).map (cfa d (p, q))).take j).map V.int))) t1 (.tup ((((List.range i).map (cfa d (p, q))).take j).map V.int))) t1 = some (.tup ((((List.range i).map (cfa d (p, q))).take j).map V.int)) := upd_same
      have hs4 := (hs3.trans sA).trans sB
      generalize upd (upd H3 c (.lst ((((List.range i).map (cfa d (p, q))).take j).map V.int))) t1 (.tup ((((List.range i).map (cfa d (p, q))).take j).map V.int)) = H4 at hpp4 ht1 hs4 ⊢
      refine ⟨_, rfl, _, rfl, _, rfl, pp, _, rfl, SqL.of hpp4, fun c2 nc2 => ⟨c2, _, rfl, .inl ⟨SqL.of upd_same, fun t3 nt3 => ?_⟩⟩⟩
      rw [cut_from, ← List.map_drop] at nt3 ⊢
      refine ⟨by show 2 ≤ sizeLine; decide, fun tt ntt => ?_⟩
      have sC := same_upd (o := .lst ((((List.range i).map (cfa d (p, q))).drop j).map V.int)) nc2
      have sD := same_upd (o := .tup ((((List.range i).map (cfa d (p, q))).drop j).map V.int)) nt3
      have sE := same_upd (o := .tup [.ref t1, .ref t3]) ntt
      exact Qd _ tt t1 t3 (((hs4.trans sC).trans sD).trans sE) upd_same (sE _ _ (sD _ _ (sC _ _ ht1))) (sE _ _ upd_same)
def spPartAt (K : PySem.W.Frag) : Sp := fun vs H Q _ => ∃ (t t1 t2 : Addr) (i : Nat) (xs ys : List Int) (v : Int), vs = [.ref t, .int (i : Int)] ∧ H t = some (.tup [.ref t1, .ref t2]) ∧ H t1 = some (.tup (xs.map V.int)) ∧ H t2 = some (.tup (ys.map V.int)) ∧ 0 < ys.length ∧
  (i < xs.length → xs[i]? = some v) ∧ (xs.length ≤ i → ys[(i - xs.length) % ys.length]? = some v) ∧ Q (.int v) H
theorem okPartAt (T : Txt K mg fa fd) : FnOk P w K mg base CX0 1 (fa 4) (fd 4) ["expansion", "index"] (spPartAt K) := by
  refine T.F_part_at.ok scPartAt (fun vs H Q E h => ?_) (fun cdv A outer s H vs Q E hr h => ?_)
  · obtain ⟨t, t1, t2, i, xs, ys, v, rfl, ht, h1, h2, hy, hv1, hv2, q⟩ := h
    rfl
  · obtain ⟨t, t1, t2, i, xs, ys, v, rfl, ht, h1, h2, hy, hv1, hv2, q⟩ := h
    refine ⟨_, (pss_cons (ps_asg (pv 0) (pg_tup (by rfl) (pgs_cons (pg_name (i := 2) scPartAt.nd rfl (Or.inl rfl)) (pgs_cons (pg_name (i := 3) scPartAt.nd rfl (Or.inl rfl)) pgs_nil))))
      (pss_cons (ps_if (pt_cmp (pc_lt (pv 1) (pe_callB (lenQ K) (by rfl) T.m_len (by decide +kernel) (pa_cons (pv 2) pa_nil))))
      (pss_one (ps_ret (pe_ix (ixT K) (pv 2) (pv 1) (fun _ _ => rfl))))
      pss_nil)
      (pss_one (ps_ret (pe_ix (ixT K) (pv 3) (pe_op op_mod (pe_op op_sub (pv 1) (pe_callB (lenQ K) (by rfl) T.m_len (by decide +kernel) (pa_cons (pv 2) pa_nil))) (pe_callB (lenQ K) (by rfl) T.m_len (by decide +kernel) (pa_cons (pv 3) pa_nil))) (fun _ _ => rfl)))))), ?_⟩
    refine ⟨_, rfl, t, _, rfl, SqT.of ht, rfl, _, _, rfl, _, _, rfl, rfl, ?_⟩
    refine ⟨_, rfl, _, rfl, _, _, rfl, .inr (SqT.of h1), _, _, rfl, rfl, _, rfl, way2 (fun h => ?_) (fun h => ?_)⟩
    · rw [List.length_map] at h
      have e := hv1 (by omega)
      exact ⟨_, rfl, _, rfl, _, _, _, _, rfl, rfl, SqT.of h1, atI_nat (by rw [List.getElem?_map, e]; rfl), q⟩
    · rw [List.length_map] at h
      have e := hv2 (by omega)
      refine ⟨_, rfl, _, rfl, _, rfl, _, _, rfl, .inr (SqT.of h1), _, _, rfl, rfl, _, rfl, _, _, rfl, .inr (SqT.of h2), _, _, rfl, rfl, ?_, _, _, _, _, rfl, rfl, SqT.of h2, at_of (j := (i - xs.length) % ys.length) ?_ (by rw [List.getElem?_map, e]; rfl), q⟩
      · show (0 : Int) < ((ys.map V.int).length : Int)
        rw [List.length_map]
        omega
      · rw [List.length_map, List.length_map, show (i : Int) - (xs.length : Int) = ((i - xs.length : Nat) : Int) by omega]
        exact (Int.natCast_emod _ _).symm
def spLawCell (K : PySem.W.Frag) : Sp := fun vs H Q _ => ∃ (l : Addr) (ns : List Int) (j : Nat), vs = [.ref l, .int (j : Int)] ∧ SqL K H l (ns.map V.int) ∧ ∀ v : Int, Q (.int v) H
theorem okLawCell (T : Txt K mg fa fd) : FnOk P w K mg base CX0 1 (fa 5) (fd 5) ["script", "k"] (spLawCell K) := by
  refine T.F__law_cell.ok scLawCell (fun vs H Q E h => ?_) (fun cdv A outer s H vs Q E hr h => ?_)
  · obtain ⟨l, ns, j, rfl, hS, q⟩ := h
    rfl
  · obtain ⟨l, ns, j, rfl, hS, q⟩ := h
    refine ⟨_, (pss_cons (ps_if (pt_cmp (pc_lt (pv 1) (pe_callB (lenQ K) (by rfl) T.m_len (by decide +kernel) (pa_cons (pv 0) pa_nil))))
      (pss_one (ps_ret (pe_ix (ixL K) (pv 0) (pv 1) (fun _ _ => rfl))))
      pss_nil)
      (pss_one (ps_ret pe_int))), ?_⟩
    refine ⟨_, rfl, _, rfl, _, _, rfl, .inl hS, _, _, rfl, rfl, _, rfl, ite2 (fun e => ?_) (fun e => ?_)⟩
    · have e1 : (j : Int) < ((ns.map V.int).length : Int) := of_decide_eq_true e
      have hj : j < ns.length := by
        rw [List.length_map] at e1
        omega
      exact ⟨_, rfl, _, rfl, _, _, _, _, rfl, rfl, hS, atI_nat (by rw [List.getElem?_map, List.getElem?_eq_getElem hj]; rfl), q _⟩
    · exact q 0
def spLawNumbers (K : PySem.W.Frag) : Sp := fun vs H Q _ => ∃ (c : Int) (m : Nat), vs = [.int c, .int (m : Int)] ∧ m ≤ 100 ∧
  ∀ H' p (ns : List Int), Same H H' → H p = none → H' p = some (.lst (ns.map V.int)) → ns.length = m → (∀ n ∈ ns, 0 ≤ n ∧ n < 1000) → Q (.ref p) H'
theorem okLawNumbers (T : Txt K mg fa fd) : FnOk P w K mg base CX0 1 (fa 6) (fd 6) ["cell", "many"] (spLawNumbers K) := by
  refine T.F__law_numbers.ok scLawNumbers (fun vs H Q E h => ?_) (fun cdv A outer s H vs Q E hr h => ?_)
  · obtain ⟨c, m, rfl, hm, q⟩ := h
    rfl
  · obtain ⟨c, m, rfl, hm, q⟩ := h
    refine ⟨_, (pss_cons (ps_set (i := 2) scLawNumbers.nd rfl (Or.inl rfl) (pe_callB call_abs (by rfl) T.m_abs (by decide +kernel) (pa_cons (pv 0) pa_nil)))
      (pss_cons (ps_set (i := 3) scLawNumbers.nd rfl (Or.inl rfl) (pv 2))
      (pss_cons (ps_set (i := 4) scLawNumbers.nd rfl (Or.inl rfl) (pe_lst pa_nil))
      (pss_cons (ps_for PassesOwn.never rfl (pi_range1 (by rfl) T.m_range (pa_cons (pv 1) pa_nil)) (pg_name (i := 5) scLawNumbers.nd rfl (Or.inl rfl))
      (pss_one (ps_if (PW.pt (pw_and (pt_cmp (pc_ge (pv 3) (pe_op op_pow pe_int pe_int))) (pw_and1 (pt_cmp (pc_gt (pv 2) pe_int)))))
        (pss_cons (ps_expr (pe_bm PySem.F.plainAttrs_list PySem.F.slot_list_append PySem.F.type_list_append mt_append (pv 4) (pa_cons (pe_op op_mod (pe_callTy call_int1 (by rfl) T.m_int (by decide +kernel) (pa_cons (pv 2) pa_nil)) pe_int) pa_nil)))
          (pss_one (ps_set (i := 2) scLawNumbers.nd rfl (Or.inl rfl) (pe_op op_fdiv (pv 2) pe_int))))
        (pss_cons (ps_set (i := 6) scLawNumbers.nd rfl (Or.inl rfl) (pe_op op_mod (pe_callTy call_int1 (by rfl) T.m_int (by decide +kernel) (pa_cons (pe_op op_add (pe_op op_add (pe_op op_mul (pv 3) pe_int) (pe_op op_mul (pv 5) pe_int)) pe_int) pa_nil)) pe_int))
          (pss_cons (ps_set (i := 6) scLawNumbers.nd rfl (Or.inl rfl) (pe_op op_mod (pe_callTy call_int1 (by rfl) T.m_int (by decide +kernel) (pa_cons (pe_op op_add (pe_op op_add (pe_op op_mul (pv 6) (pv 6)) (pe_op op_mul pe_int (pv 5))) pe_int) pa_nil)) pe_int))
          (pss_one (ps_expr (pe_bm PySem.F.plainAttrs_list PySem.F.slot_list_append PySem.F.type_list_append mt_append (pv 4) (pa_cons (pe_op op_mod (pe_callTy call_int1 (by rfl) T.m_int (by decide +kernel) (pa_cons (pe_op op_fdiv (pv 6) pe_int) pa_nil)) pe_int) pa_nil)))))))))
      (pss_one (ps_ret (pv 4))))))), ?_⟩
    refine ⟨_, rfl, _, rfl, _, rfl, Nat.zero_le _, fun o no => ?_⟩
    refine ⟨_, rfl, _, rfl, by omega, by omega, for_range (lo := 0) (n := m) (fun i σ H' => ∃ (rest span : Int) (x5 x6 : Option V) (ns : List Int), σ = [some (.int c), some (.int (m : Int)), some (.int rest), some (.int span), some (.ref o), x5, x6] ∧ Same H H' ∧ H' o = some (.lst (ns.map V.int)) ∧ ns.length = i ∧ ∀ n ∈ ns, 0 ≤ n ∧ n < 1000)
      ⟨_, _, _, _, [], rfl, same_upd no, upd_same, rfl, fun n h => nomatch h⟩ (fun i σ H' hi ⟨rest, span, x5, x6, ns, hσ, hs, ho, hl, hb⟩ => ?_) (fun σ H' ⟨rest, span, x5, x6, ns, hσ, hs, ho, hl, hb⟩ => ?_)⟩
    · subst hσ
      have sz : (ns.map V.int).length < sizeLine := by
        rw [List.length_map]
        exact small1000 (by omega)
      have app : ∀ r : Int, 0 ≤ r → r < 1000 → (upd H' o (.lst (ns.map V.int ++ [V.int r]))) o = some (.lst ((ns ++ [r]).map V.int)) ∧ (ns ++ [r]).length = i + 1 ∧ ∀ n ∈ ns ++ [r], 0 ≤ n ∧ n < 1000 := fun r h0 h1 => by
        refine ⟨by rw [upd_same, List.map_append]; rfl, by rw [List.length_append, hl]; rfl, fun n hn => ?_⟩
        rcases List.mem_append.mp hn with hn | hn
        · exact hb n hn
        · rw [List.mem_singleton.mp hn]
          exact ⟨h0, h1⟩
      refine ⟨_, rfl, _, _, rfl, rfl, ⟨by decide, by decide, by decide⟩, _, _, rfl, rfl, _, rfl, ?_⟩
      have tl : ∀ (D : Ends) (rest' : Int) (x5' x6' : Option V) (r : Int), 0 ≤ r → r < 1000 → (∀ σ' H2, (∃ (rest span : Int) (x5 x6 : Option V) (ns : List Int), σ' = [some (.int c), some (.int (m : Int)), some (.int rest), some (.int span), some (.ref o), x5, x6] ∧ Same H H2 ∧ H2 o = some (.lst (ns.map V.int)) ∧ ns.length = i + 1 ∧ ∀ n ∈ ns, 0 ≤ n ∧ n < 1000) → D.nx σ' H2) → D.nx [some (.int c), some (.int (m : Int)), some (.int rest'), some (.int span), some (.ref o), x5', x6'] (upd H' o (.lst (ns.map V.int ++ [V.int r]))) := fun D rest' x5' x6' r h0 h1 k => by
        obtain ⟨a1, a2, a3⟩ := app r h0 h1
        exact k _ _ ⟨rest', span, x5', x6', _, rfl, same_mut hs no, a1, a2, a3⟩
      have m1 : ∀ z : Int, 0 ≤ z % 1000 ∧ z % 1000 < 1000 := fun z => by omega
      have m2 : ∀ z : Int, 0 ≤ z % 2147483647 ∧ z % 2147483647 < 2147483647 := fun z => by omega
      refine ite2 (fun e => ?_) (fun e => ?_)
      · refine ⟨_, rfl, _, _, rfl, rfl, _, rfl, ite2 (fun e => ?_) (fun e => ?_)⟩
        · refine ⟨_, rfl, .inl ⟨rfl, _, SqL.of ho⟩, _, rfl, .inl ⟨_, rfl, _, _, rfl, rfl, by show (0 : Int) < 1000; decide, _, _, _, rfl, rfl, ho, sz, ?_⟩⟩
          refine ⟨_, rfl, _, _, rfl, rfl, ⟨by decide, by decide⟩, ?_⟩
          obtain ⟨a1, a2, a3⟩ := app (rest % 1000) (m1 _).1 (m1 _).2
          exact ⟨_, _, _, _, _, rfl, same_mut hs no, a1, a2, a3⟩
        · refine ⟨_, rfl, _, _, rfl, rfl, .inr ⟨by decide, by decide⟩, _, rfl, _, _, rfl, rfl, .inr ⟨by decide, by decide⟩, _, _, rfl, rfl, _, _, rfl, rfl, .inl ⟨_, rfl, _, _, rfl, rfl, by show (0 : Int) < 2147483647; decide, ?_⟩⟩
          refine ⟨_, rfl, _, rfl, _, _, rfl, rfl, .inl ?_, _, rfl, _, _, rfl, rfl, .inl ⟨by decide, by decide⟩, _, _, rfl, rfl, _, _, rfl, rfl, .inl ⟨_, rfl, _, _, rfl, rfl, by show (0 : Int) < 2147483629; decide, ?_⟩⟩
          · have h := m2 (span * 48271 + (0 + (i : Int)) * 69621 + 11)
            omega
          refine ⟨_, rfl, .inl ⟨rfl, _, SqL.of ho⟩, _, rfl, _, _, rfl, rfl, ⟨by decide, by decide⟩, .inl ⟨_, rfl, _, _, rfl, rfl, by show (0 : Int) < 1000; decide, _, _, _, rfl, rfl, ho, sz, ?_⟩⟩
          obtain ⟨a1, a2, a3⟩ := app _ (m1 _).1 (m1 _).2
          exact ⟨_, _, _, _, _, rfl, same_mut hs no, a1, a2, a3⟩
      · refine iteF ?_
        refine ⟨_, rfl, _, _, rfl, rfl, .inr ⟨by decide, by decide⟩, _, rfl, _, _, rfl, rfl, .inr ⟨by decide, by decide⟩, _, _, rfl, rfl, _, _, rfl, rfl, .inl ⟨_, rfl, _, _, rfl, rfl, by show (0 : Int) < 2147483647; decide, ?_⟩⟩
        refine ⟨_, rfl, _, rfl, _, _, rfl, rfl, .inl ?_, _, rfl, _, _, rfl, rfl, .inl ⟨by decide, by decide⟩, _, _, rfl, rfl, _, _, rfl, rfl, .inl ⟨_, rfl, _, _, rfl, rfl, by show (0 : Int) < 2147483629; decide, ?_⟩⟩
        · have h := m2 (span * 48271 + (0 + (i : Int)) * 69621 + 11)
          omega
        refine ⟨_, rfl, .inl ⟨rfl, _, SqL.of ho⟩, _, rfl, _, _, rfl, rfl, ⟨by decide, by decide⟩, .inl ⟨_, rfl, _, _, rfl, rfl, by show (0 : Int) < 1000; decide, _, _, _, rfl, rfl, ho, sz, ?_⟩⟩
        obtain ⟨a1, a2, a3⟩ := app _ (m1 _).1 (m1 _).2
        exact ⟨_, _, _, _, _, rfl, same_mut hs no, a1, a2, a3⟩
    · subst hσ
      exact ⟨_, rfl, q _ _ ns hs no ho hl hb⟩
def spLawState (K : PySem.W.Frag) : Sp := fun vs H Q _ => ∃ (l : Addr) (ns : List Int), vs = [.ref l] ∧ SqL K H l (ns.map V.int) ∧ ∀ H' p a, Same H H' → Dw H' p a 0 → Q (.ref p) H'
theorem okLawState (T : Txt K mg fa fd) : FnOk P w K mg base CX0 2 (fa 7) (fd 7) ["script"] (spLawState K) := by
  refine T.F__law_state.ok scLawState (fun vs H Q E h => ?_) (fun cdv A outer s H vs Q E hr h => ?_)
  · obtain ⟨l, ns, rfl, hS, q⟩ := h
    rfl
  · obtain ⟨l, ns, rfl, hS, q⟩ := h
    refine ⟨_, (pss_cons (ps_set (i := 1) scLawState.nd rfl (Or.inl rfl) (pe_lst pa_nil))
      (pss_cons (ps_for PassesOwn.never rfl (pi_range1 (by rfl) T.m_range (pa_cons pe_int pa_nil)) (pg_name (i := 2) scLawState.nd rfl (Or.inl rfl))
      (pss_one (ps_set (i := 1) scLawState.nd rfl (Or.inl rfl) (pe_op op_cat (pv 1) (pe_call (okLawNumbers T) hr (by rfl) T.G__law_numbers T.F__law_numbers.kp T.B__law_numbers .nil pass0 (pa_cons (pe_op op_add (pe_callB call_abs (by rfl) T.m_abs (by decide +kernel) (pa_cons (pe_call (okLawCell T) hr (by rfl) T.G__law_cell T.F__law_cell.kp T.B__law_cell .nil pass0 (pa_cons (pv 0) (pa_cons (pv 2) pa_nil))) pa_nil)) (pe_op op_mul pe_int (pv 2))) (pa_cons pe_int pa_nil)))))))
      (pss_one (ps_ret (pe_lst (pa_cons (pv 1) (pa_cons pe_int pa_nil))))))), ?_⟩
    refine ⟨Nat.zero_le _, fun o no => ?_⟩
    refine ⟨3, rfl, by decide, by decide, for_range (lo := 0) (n := 3) (fun i σ H' => ∃ (o : Addr) (x2 : Option V) (ms : List Int), σ = [some (.ref l), some (.ref o), x2] ∧ Same H H' ∧ H' o = some (.lst (ms.map V.int)) ∧ ms.length = 40 * i ∧ ∀ n ∈ ms, 0 ≤ n ∧ n < 1000)
      ⟨o, none, [], rfl, same_upd no, upd_same, rfl, fun n h => nomatch h⟩ (fun i σ H' hi ⟨o, x2, ms, hσ, hs, ho, hl, hb⟩ => ?_) (fun σ H' ⟨o, x2, ms, hσ, hs, ho, hl, hb⟩ => ?_)⟩
    · subst hσ
      refine ⟨_, rfl, _, rfl, _, rfl, l, ns, i, ?_, hs.seq hS, fun v => ⟨_, rfl, _, rfl, _, _, rfl, rfl, .inl ⟨by decide, by decide⟩, _, _, rfl, rfl, _, 40, rfl, by decide, fun H2 u ks s2 nu hu kl kb => ?_⟩⟩
      · exact congrArg (fun t : Int => [V.ref l, V.int t]) (Int.zero_add _)
      refine ⟨_, _, _, _, rfl, rfl, s2 _ _ ho, hu, ?_, fun w nw => ?_⟩
      · rw [List.length_map, List.length_map]
        exact small200 (by omega)
      refine ⟨w, _, ms ++ ks, rfl, (hs.trans s2).trans (same_upd nw), ?_, ?_, fun n hn => ?_⟩
      · rw [upd_same, List.map_append]
      · rw [List.length_append]
        omega
      · rcases List.mem_append.mp hn with hn | hn
        · exact hb n hn
        · exact kb n hn
    · subst hσ
      refine ⟨_, rfl, by show 2 ≤ sizeLine; decide, fun p np => ?_⟩
      refine q _ p o (hs.trans (same_upd np)) ⟨0, ms, Nat.le_refl 0, ne_of_none ho np, upd_same, ?_, hl, hb⟩
      rw [upd_ne (ne_of_none ho np)]
      exact ho
def spLawNext (_ : PySem.W.Frag) : Sp := fun vs H Q _ => ∃ (p a : Addr) (many : Int) (N : Nat), vs = [.ref p, .int many] ∧ Dw H p a N ∧ N < 1000000000 ∧ 0 < many ∧
  ∀ r H', 0 ≤ r → r < many → Dw H' p a (N + 1) → (∀ b, b ≠ p → H' b = H b) → Q (.int r) H'
theorem uLawNext {K : PySem.W.Frag} {H : Hp} {Q : VK} {E : XK} {vs : List V} {p a : Addr} {N : Nat} {many : Int} (e : vs = [.ref p, .int many]) (d : Dw H p a N) (hN : N < 1000000000) (hm : 0 < many) (q : ∀ r H', 0 ≤ r → r < many → Dw H' p a (N + 1) → Kp p H H' → Q (.int r) H') : spLawNext K vs H Q E :=
  ⟨p, a, many, N, e, d, hN, hm, fun r H' h0 h1 d' f => q r H' h0 h1 d' (frm_kp f)⟩
theorem okLawNext (T : Txt K mg fa fd) : FnOk P w K mg base CX0 1 (fa 8) (fd 8) ["state", "many"] (spLawNext K) := by
  refine T.F__law_next.ok scLawNext (fun vs H Q E h => ?_) (fun cdv A outer s H vs Q E hr h => ?_)
  · obtain ⟨p, a, many, N, rfl, ⟨m, ns, hm, hap, hp, ha, hl, hb⟩, hN, hmany, q⟩ := h
    rfl
  · obtain ⟨p, a, many, N, rfl, ⟨m, ns, hm, hap, hp, ha, hl, hb⟩, hN, hmany, q⟩ := h
    refine ⟨_, (pss_cons (ps_asg (pe_op op_add (pe_ix (ixL K) (pv 0) pe_int (fun _ _ => rfl)) pe_int) (pg_sub (pv 0) pe_int set_list))
      (pss_cons (ps_set (i := 2) scLawNext.nd rfl (Or.inl rfl) (pe_op op_add (pe_ix (ixL K) (pe_ix (ixL K) (pv 0) pe_int (fun _ _ => rfl)) (pe_op op_mod (pe_callTy call_int1 (by rfl) T.m_int (by decide +kernel) (pa_cons (pe_op op_mul (pe_ix (ixL K) (pv 0) pe_int (fun _ _ => rfl)) pe_int) pa_nil)) (pe_callB (lenQ K) (by rfl) T.m_len (by decide +kernel) (pa_cons (pe_ix (ixL K) (pv 0) pe_int (fun _ _ => rfl)) pa_nil))) (fun _ _ => rfl)) (pe_op op_mul (pe_op op_mul pe_int (pe_ix (ixL K) (pv 0) pe_int (fun _ _ => rfl))) (pe_op op_add pe_int (pe_op op_fdiv (pe_ix (ixL K) (pv 0) pe_int (fun _ _ => rfl)) (pe_callB (lenQ K) (by rfl) T.m_len (by decide +kernel) (pa_cons (pe_ix (ixL K) (pv 0) pe_int (fun _ _ => rfl)) pa_nil)))))))
      (pss_one (ps_ret (pe_op op_mod (pe_callTy call_int1 (by rfl) T.m_int (by decide +kernel) (pa_cons (pv 2) pa_nil)) (pv 1)))))), ?_⟩
    have eS : SqL K H p [.ref a, .int (m : Int)] := SqL.of hp
    refine ⟨_, rfl, _, _, _, _, rfl, rfl, eS, atI_nat (j := 1) rfl, _, _, rfl, rfl, _, rfl, _, _, _, 1, rfl, rfl, hp, rfl, ?_⟩
    have h1p : (upd H p (.lst [.ref a, .int ((m : Int) + 1)])) p = some (.lst [.ref a, .int ((m : Int) + 1)]) := upd_same
    have h1a : (upd H p (.lst [.ref a, .int ((m : Int) + 1)])) a = some (.lst (ns.map V.int)) := by
      rw [upd_ne hap]
      exact ha
    have fr : ∀ b, b ≠ p → (upd H p (.lst [.ref a, .int ((m : Int) + 1)])) b = H b := fun b hb => upd_ne hb
    show tSeq _ _ _ _ (upd H p (.lst [.ref a, .int ((m : Int) + 1)]))
    generalize upd H p (.lst [.ref a, .int ((m : Int) + 1)]) = H1 at h1p h1a fr
    have S1 : SqL K H1 p [.ref a, .int ((m : Int) + 1)] := SqL.of h1p
    have A1 : SqL K H1 a (ns.map V.int) := SqL.of h1a
    have hl2 : ((ns.map V.int).length : Int) = 120 := by
      rw [List.length_map, hl]
      rfl
    obtain ⟨x, hx, ex⟩ := at_int (ns := ns) (r := ((m : Int) + 1) * 7 % 120) (by omega) (by omega)
    refine ⟨_, rfl, _, _, _, _, rfl, rfl, S1, atI_nat (j := 0) rfl, _, rfl, _, _, _, _, rfl, rfl, S1, atI_nat (j := 1) rfl, _, _, rfl, rfl, .inr ⟨by decide, by decide⟩, .inl ⟨_, rfl, _, rfl, _, _, _, _, rfl, rfl, S1, atI_nat (j := 0) rfl, _, _, rfl, .inl A1, ?_⟩⟩
    rw [hl2]
    refine ⟨_, _, rfl, rfl, by show (0 : Int) < 120; decide, _, _, _, _, rfl, rfl, A1, ex, ?_⟩
    refine ⟨_, rfl, _, _, _, _, rfl, rfl, S1, atI_nat (j := 1) rfl, _, _, rfl, rfl, .inl ⟨by decide, by decide⟩, _, rfl, _, _, _, _, rfl, rfl, S1, atI_nat (j := 1) rfl, _, rfl, _, _, _, _, rfl, rfl, S1, atI_nat (j := 0) rfl, _, _, rfl, .inl A1, ?_⟩
    rw [hl2]
    refine ⟨_, _, rfl, rfl, ⟨by decide, by decide⟩, _, _, rfl, rfl, _, _, rfl, rfl, .inl ⟨by omega, by omega⟩, _, _, rfl, rfl, ?_⟩
    refine ⟨_, rfl, .inl ⟨_, rfl, _, rfl, _, _, rfl, rfl, hmany, ?_⟩⟩
    exact q _ _ (Int.emod_nonneg _ (by omega)) (Int.emod_lt_of_pos _ hmany) ⟨m + 1, ns, by omega, hap, h1p, h1a, hl, hb⟩ fr
def spLawWide (_ : PySem.W.Frag) : Sp := fun vs H Q _ => ∃ (p a : Addr) (many : Int) (N : Nat), vs = [.ref p, .int many] ∧ Dw H p a N ∧ N < 900000000 ∧ 0 < many ∧
  ∀ r H', 0 ≤ r → r < many → Dw H' p a (N + 6) → (∀ b, b ≠ p → H' b = H b) → Q (.int r) H'
theorem uLawWide {K : PySem.W.Frag} {H : Hp} {Q : VK} {E : XK} {vs : List V} {p a : Addr} {N : Nat} {many : Int} (e : vs = [.ref p, .int many]) (d : Dw H p a N) (hN : N < 900000000) (hm : 0 < many) (q : ∀ r H', 0 ≤ r → r < many → Dw H' p a (N + 6) → Kp p H H' → Q (.int r) H') : spLawWide K vs H Q E :=
  ⟨p, a, many, N, e, d, hN, hm, fun r H' h0 h1 d' f => q r H' h0 h1 d' (frm_kp f)⟩
theorem okLawWide (T : Txt K mg fa fd) : FnOk P w K mg base CX0 2 (fa 9) (fd 9) ["state", "many"] (spLawWide K) := by
  refine T.F__law_wide.ok scLawWide (fun vs H Q E h => ?_) (fun cdv A outer s H vs Q E hr h => ?_)
  · obtain ⟨p, a, many, N, rfl, hD, hN, hmany, q⟩ := h
    rfl
  · obtain ⟨p, a, many, N, rfl, hD, hN, hmany, q⟩ := h
    refine ⟨_, (pss_cons (ps_set (i := 2) scLawWide.nd rfl (Or.inl rfl) pe_int)
      (pss_cons (ps_for PassesOwn.never rfl (pi_range1 (by rfl) T.m_range (pa_cons pe_int pa_nil)) (pg_name (i := 3) scLawWide.nd rfl (Or.inl rfl))
      (pss_one (ps_set (i := 2) scLawWide.nd rfl (Or.inl rfl) (pe_op op_add (pe_op op_mul (pv 2) pe_int) (pe_call (okLawNext T) hr (by rfl) T.G__law_next T.F__law_next.kp T.B__law_next .nil pass0 (pa_cons (pv 0) (pa_cons pe_int pa_nil)))))))
      (pss_one (ps_ret (pe_op op_mod (pv 2) (pv 1)))))), ?_⟩
    refine ⟨6, rfl, by decide, by decide, for_range (lo := 0) (n := 6) (fun i σ H' => ∃ (t : Int) (x3 : Option V), σ = [some (.ref p), some (.int many), some (.int t), x3] ∧ Dw H' p a (N + i) ∧ ∀ b, b ≠ p → H' b = H b)
      ⟨0, none, rfl, hD, fun _ _ => rfl⟩ (fun i σ H' hi ⟨t, x3, hσ, hd, fr⟩ => ?_) (fun σ H' ⟨t, x3, hσ, hd, fr⟩ => ?_)⟩
    · subst hσ
      refine ⟨_, rfl, _, _, rfl, rfl, .inr ⟨by decide, by decide⟩, _, rfl, p, a, 1000, N + i, rfl, hd, by omega, by decide, fun r H2 h0 h1 hd2 fr2 => ?_⟩
      refine ⟨_, _, rfl, rfl, _, _, rfl, ?_, fun b hb => (fr2 b hb).trans (fr b hb)⟩
      exact hd2
    · subst hσ
      refine ⟨_, rfl, _, rfl, _, _, rfl, rfl, hmany, ?_⟩
      exact q _ _ (Int.emod_nonneg _ (by omega)) (Int.emod_lt_of_pos _ hmany) hd fr
def spLawRoot (_ : PySem.W.Frag) : Sp := fun vs H Q _ => ∃ n : Int, vs = [.int n] ∧ 0 ≤ n ∧ n < 2 ^ 60 ∧ Q (.int (rootI n)) H
theorem okLawRoot (T : Txt K mg fa fd) : FnOk P w K mg base CX0 1 (fa 10) (fd 10) ["n"] (spLawRoot K) := by
  refine T.F__law_root.ok scLawRoot (fun vs H Q E h => ?_) (fun cdv A outer s H vs Q E hr h => ?_)
  · obtain ⟨n, rfl, h0, h1, q⟩ := h
    rfl
  · obtain ⟨n, rfl, h0, h1, q⟩ := h
    refine ⟨_, (pss_cons (ps_set (i := 1) scLawRoot.nd rfl (Or.inl rfl) pe_int)
      (pss_cons (ps_set (i := 2) scLawRoot.nd rfl (Or.inl rfl) (pe_op op_add (pv 0) pe_int))
      (pss_cons (ps_for PassesOwn.never rfl (pi_range1 (by rfl) T.m_range (pa_cons pe_int pa_nil)) (pg_name (i := 3) scLawRoot.nd rfl (Or.inl rfl))
      (pss_cons (ps_if (pt_cmp (pc_le (pe_op op_sub (pv 2) (pv 1)) pe_int))
        (pss_one (ps_ret (pv 1)))
        pss_nil)
        (pss_cons (ps_set (i := 4) scLawRoot.nd rfl (Or.inl rfl) (pe_op op_fdiv (pe_op op_add (pv 1) (pv 2)) pe_int))
        (pss_one (ps_if (pt_cmp (pc_le (pe_op op_mul (pv 4) (pv 4)) (pv 0)))
        (pss_one (ps_set (i := 1) scLawRoot.nd rfl (Or.inl rfl) (pv 4)))
        (pss_one (ps_set (i := 2) scLawRoot.nd rfl (Or.inl rfl) (pv 4))))))))
      (pss_one (ps_ret (pv 1)))))), ?_⟩
    have h1' : n < 1152921504606846976 := h1
    refine ⟨_, rfl, _, _, rfl, rfl, 2000, rfl, by decide, by decide, ?_⟩
    refine for_range (lo := 0) (n := 2000) (fun i σ H' => ∃ (low high : Int) (x3 x4 : Option V), σ = [some (.int n), some (.int low), some (.int high), x3, x4] ∧ H' = H ∧ 0 ≤ low ∧ low < high ∧ high ≤ n + 1 ∧ low * low ≤ n ∧ n < high * high ∧ (high - low - 1) * 2 ^ i ≤ n)
      ⟨0, n + 1, none, none, rfl, rfl, by omega, by omega, by omega, by omega, ?_, by simp⟩ (fun i σ H' hi ⟨low, high, x3, x4, hσ, e, z0, z1, z2, z3, z4, z5⟩ => ?_) (fun σ H' ⟨low, high, x3, x4, hσ, e, z0, z1, z2, z3, z4, z5⟩ => ?_)
    · have a : (n + 1) * 1 ≤ (n + 1) * (n + 1) := Int.mul_le_mul_of_nonneg_left (by omega) (by omega)
      omega
    · subst hσ e
      refine ⟨_, rfl, _, rfl, _, _, rfl, rfl, _, _, rfl, rfl, _, rfl, way2 (fun h => ?_) (fun h => ?_)⟩
      · have eh : high = low + 1 := by omega
        subst eh
        refine ⟨_, rfl, ?_⟩
        rw [← rootI_uniq h0 z0 z3 z4] at q
        exact q
      · obtain ⟨k1, k2, k3, k4⟩ := half_step (by omega) z5
        refine ⟨_, rfl, _, rfl, _, _, rfl, rfl, _, _, rfl, rfl, ⟨by decide, by decide⟩, ?_⟩
        refine ⟨_, rfl, _, rfl, _, _, rfl, rfl, .inl ⟨by omega, by omega⟩, _, rfl, _, _, rfl, rfl, _, rfl, way2 (fun h => ?_) (fun h => ?_)⟩
        · exact ⟨_, rfl, (low + high) / 2, high, _, _, rfl, rfl, by omega, k4, z2, h, z4, k2⟩
        · exact ⟨_, rfl, low, (low + high) / 2, _, _, rfl, rfl, z0, k3, by omega, z3, by omega, k1⟩
    · subst hσ e
      have eh : high = low + 1 := by
        by_cases z : high - low - 1 ≤ 0
        · omega
        · have p0 : (2 : Int) ^ 60 ≤ 2 ^ 2000 := by
            have e1 : ((2 ^ 60 : Nat) : Int) = 2 ^ 60 := Int.natCast_pow 2 60
            have e2 : ((2 ^ 2000 : Nat) : Int) = 2 ^ 2000 := Int.natCast_pow 2 2000
            have e3 := Nat.pow_le_pow_right (n := 2) (by decide) (show 60 ≤ 2000 by decide)
            omega
          have a : 1 * 2 ^ 2000 ≤ (high - low - 1) * 2 ^ 2000 := Int.mul_le_mul_of_nonneg_right (by omega) (Int.le_trans (by decide) p0)
          omega
      subst eh
      refine ⟨_, rfl, ?_⟩
      rw [← rootI_uniq h0 z0 z3 z4] at q
      exact q
def spLawIsAtMost (_ : PySem.W.Frag) : Sp := fun vs H Q _ => ∃ n p q d : Int, vs = [.int n, .int p, .int q, .int d] ∧ -3000000 < n ∧ n < 3000000 ∧ -3000000 < p ∧ p < 3000000 ∧ -1000 < q ∧ q < 1000 ∧ 0 ≤ d ∧ rootI d * rootI d ≠ d ∧ q ≠ 0 ∧
  Q (.bl (decide (n ≤ partI p q (rootI d)))) H
theorem okLawIsAtMost (T : Txt K mg fa fd) : FnOk P w K mg base CX0 1 (fa 11) (fd 11) ["n", "p", "q", "d"] (spLawIsAtMost K) := by
  refine T.F__law_is_at_most.ok scLawIsAtMost (fun vs H Q E h => ?_) (fun cdv A outer s H vs Q E hr h => ?_)
  · obtain ⟨n, p, q, d, rfl, n0, n1, p0, p1, q0, q1, d0, hns, hq, k⟩ := h
    rfl
  · obtain ⟨n, p, q, d, rfl, n0, n1, p0, p1, q0, q1, d0, hns, hq, k⟩ := h
    refine ⟨_, (pss_cons (ps_set (i := 4) scLawIsAtMost.nd rfl (Or.inl rfl) (pe_op op_sub (pe_op op_mul (pv 0) (pv 2)) (pv 1)))
      (pss_cons (ps_if (pt_cmp (pc_gt (pv 2) pe_int))
      (pss_one (ps_ret (pe_or (pe_cmp (pc_lt (pv 4) pe_int)) (pe_one (pe_cmp (pc_le (pe_op op_mul (pv 4) (pv 4)) (pv 3)))))))
      pss_nil)
      (pss_one (ps_ret (pe_and (pe_cmp (pc_gt (pv 4) pe_int)) (pe_one (pe_cmp (pc_ge (pe_op op_mul (pv 4) (pv 4)) (pv 3))))))))), ?_⟩
    have b0 : -3000000000 ≤ n * q ∧ n * q ≤ 3000000000 := by
      have e1 : (n * q).natAbs = n.natAbs * q.natAbs := Int.natAbs_mul n q
      have e2 : n.natAbs * q.natAbs ≤ 3000000 * 1000 := Nat.mul_le_mul (by omega) (by omega)
      omega
    refine ⟨_, rfl, _, rfl, _, _, rfl, rfl, .inl ⟨by omega, by omega⟩, _, rfl, _, _, rfl, rfl, ?_⟩
    refine ⟨_, rfl, _, _, rfl, rfl, _, rfl, way2 (fun h => ?_) (fun h => ?_)⟩
    · have em := atmost_pos (n := n) (p := p) (q := q) d0 h
      refine ⟨_, rfl, _, _, rfl, rfl, _, rfl, way2 (fun h2 => ?_) (fun h2 => ?_)⟩
      · rw [decide_eq_true (em.mp (.inl h2))] at k
        exact k
      · refine ⟨_, rfl, _, rfl, _, _, rfl, rfl, .inl ⟨by omega, by omega⟩, _, rfl, _, _, rfl, rfl, ?_⟩
        have e2 : decide ((n * q - p) * (n * q - p) ≤ d) = decide (n ≤ partI p q (rootI d)) := decide_eq_decide.mpr ⟨fun z => em.mp (.inr z), fun z => (em.mpr z).resolve_left h2⟩
        show Q (.bl (decide ((n * q - p) * (n * q - p) ≤ d))) _
        rw [e2]
        exact k
    · have em := atmost_neg (n := n) (p := p) (q := q) d0 hns (by omega)
      refine ⟨_, rfl, _, _, rfl, rfl, _, rfl, way2 (fun h2 => ?_) (fun h2 => ?_)⟩
      · refine ⟨_, rfl, _, rfl, _, _, rfl, rfl, .inl ⟨by omega, by omega⟩, _, rfl, _, _, rfl, rfl, ?_⟩
        have e2 : decide (d ≤ (n * q - p) * (n * q - p)) = decide (n ≤ partI p q (rootI d)) := decide_eq_decide.mpr ⟨fun z => em.mp ⟨h2, z⟩, fun z => (em.mpr z).2⟩
        show Q (.bl (decide (d ≤ (n * q - p) * (n * q - p)))) _
        rw [e2]
        exact k
      · rw [decide_eq_false fun z => h2 (em.mpr z).1] at k
        exact k
theorem part_size {p q d : Int} (d0 : 0 ≤ d) (hq : q ≠ 0) : -(p.natAbs : Int) - d - 2 ≤ partI p q (rootI d) ∧ partI p q (rootI d) < (p.natAbs : Int) + d + 2 := by
  obtain ⟨a, b, c⟩ := rootI_spec (n := d) d0
  have rd : rootI d ≤ d := by
    by_cases z : rootI d = 0
    · omega
    · have := Int.mul_le_mul_of_nonneg_right (show 1 ≤ rootI d by omega) a
      omega
  by_cases h : 0 < q
  · rw [partI_pos h]
    generalize rootI d = r at a rd
    constructor
    · refine Int.le_trans (show -(p.natAbs : Int) - d - 2 ≤ -((p + r).natAbs : Int) by omega) ((Int.le_ediv_iff_mul_le h).mpr ?_)
      have e : -((p + r).natAbs : Int) * q ≤ -((p + r).natAbs : Int) * 1 := Int.mul_le_mul_of_nonpos_left (by omega) (by omega)
      omega
    · refine (Int.ediv_lt_iff_lt_mul h).mpr ?_
      have e : ((p.natAbs : Int) + d + 2) * 1 ≤ ((p.natAbs : Int) + d + 2) * q := Int.mul_le_mul_of_nonneg_left (by omega) (by omega)
      omega
  · have e : partI p q (rootI d) = (p + rootI d + 1).fdiv q := by
      unfold partI
      rw [if_neg h]
    rw [e]
    have a1 := Int.mul_fdiv_add_fmod (p + rootI d + 1) q
    obtain ⟨a2, a3⟩ := fmod_below (p + rootI d + 1) (show q < 0 by omega)
    generalize (p + rootI d + 1).fmod q = m at a1 a2 a3
    generalize (p + rootI d + 1).fdiv q = f at a1
    have e1 : -q * f = -(q * f) := by grind
    constructor
    · by_cases z : -(p.natAbs : Int) - d - 2 ≤ f
      · exact z
      · have y : -q * f ≤ -q * (-(p.natAbs : Int) - d - 3) := Int.mul_le_mul_of_nonneg_left (by omega) (by omega)
        have y2 : -q * (-(p.natAbs : Int) - d - 3) = -(-q * ((p.natAbs : Int) + d + 2)) - -q := by grind
        have y3 : 1 * ((p.natAbs : Int) + d + 2) ≤ -q * ((p.natAbs : Int) + d + 2) := Int.mul_le_mul_of_nonneg_right (by omega) (by omega)
        omega
    · by_cases z : f < (p.natAbs : Int) + d + 2
      · exact z
      · have y : -q * ((p.natAbs : Int) + d + 2) ≤ -q * f := Int.mul_le_mul_of_nonneg_left (by omega) (by omega)
        have y3 : 1 * ((p.natAbs : Int) + d + 2) ≤ -q * ((p.natAbs : Int) + d + 2) := Int.mul_le_mul_of_nonneg_right (by omega) (by omega)
        omega
def spLawPart (_ : PySem.W.Frag) : Sp := fun vs H Q _ => ∃ p q d : Int, vs = [.int p, .int q, .int d] ∧ -1100000 < p ∧ p < 1100000 ∧ -1000 < q ∧ q < 1000 ∧ 0 ≤ d ∧ d ≤ 3001 ∧ rootI d * rootI d ≠ d ∧ q ≠ 0 ∧
  Q (.int (partI p q (rootI d))) H
theorem okLawPart (T : Txt K mg fa fd) : FnOk P w K mg base CX0 2 (fa 12) (fd 12) ["p", "q", "d"] (spLawPart K) := by
  refine T.F__law_part.ok scLawPart (fun vs H Q E h => ?_) (fun cdv A outer s H vs Q E hr h => ?_)
  · obtain ⟨p, q, d, rfl, p0, p1, q0, q1, d0, d1, hns, hq, k⟩ := h
    rfl
  · obtain ⟨p, q, d, rfl, p0, p1, q0, q1, d0, d1, hns, hq, k⟩ := h
    refine ⟨_, (pss_cons (ps_set (i := 3) scLawPart.nd rfl (Or.inl rfl) (pe_op op_sub (pe_op op_sub (pe_un un_neg (pe_callB call_abs (by rfl) T.m_abs (by decide +kernel) (pa_cons (pv 0) pa_nil))) (pv 2)) pe_int))
      (pss_cons (ps_set (i := 4) scLawPart.nd rfl (Or.inl rfl) (pe_op op_add (pe_op op_add (pe_callB call_abs (by rfl) T.m_abs (by decide +kernel) (pa_cons (pv 0) pa_nil)) (pv 2)) pe_int))
      (pss_cons (ps_for PassesOwn.never rfl (pi_range1 (by rfl) T.m_range (pa_cons pe_int pa_nil)) (pg_name (i := 5) scLawPart.nd rfl (Or.inl rfl))
      (pss_cons (ps_if (pt_cmp (pc_le (pe_op op_sub (pv 4) (pv 3)) pe_int))
        (pss_one (ps_ret (pv 3)))
        pss_nil)
        (pss_cons (ps_set (i := 6) scLawPart.nd rfl (Or.inl rfl) (pe_op op_fdiv (pe_op op_add (pv 3) (pv 4)) pe_int))
        (pss_one (ps_if (pt_truth (pe_call (okLawIsAtMost T) hr (by rfl) T.G__law_is_at_most T.F__law_is_at_most.kp T.B__law_is_at_most .nil pass0 (pa_cons (pv 6) (pa_cons (pv 0) (pa_cons (pv 1) (pa_cons (pv 2) pa_nil))))) (by intro _; rfl))
        (pss_one (ps_set (i := 3) scLawPart.nd rfl (Or.inl rfl) (pv 6)))
        (pss_one (ps_set (i := 4) scLawPart.nd rfl (Or.inl rfl) (pv 6))))))))
      (pss_one (ps_ret (pv 3)))))), ?_⟩
    obtain ⟨N0, N1⟩ := part_size (p := p) d0 hq
    generalize eN : partI p q (rootI d) = N at N0 N1 k
    have eA : (if p < 0 then -p else p) = (p.natAbs : Int) := by split <;> omega
    refine ⟨_, rfl, p, rfl, _, rfl, _, rfl, _, _, rfl, rfl, _, _, rfl, rfl, _, rfl, p, rfl, _, rfl, _, _, rfl, rfl, _, _, rfl, rfl, 60, rfl, by decide, by decide, ?_⟩
    rw [eA]
    refine for_range (lo := 0) (n := 60) (fun i σ H' => ∃ (low high : Int) (x5 x6 : Option V), σ = [some (.int p), some (.int q), some (.int d), some (.int low), some (.int high), x5, x6] ∧ H' = H ∧ low ≤ N ∧ N < high ∧ -3000000 < low ∧ high < 3000000 ∧ (high - low - 1) * 2 ^ i ≤ 5000000)
      ⟨-(p.natAbs : Int) - d - 2, (p.natAbs : Int) + d + 2, none, none, rfl, rfl, N0, N1, by omega, by omega, by simp; omega⟩ (fun i σ H' hi ⟨low, high, x5, x6, hσ, e, z0, z1, z2, z3, z5⟩ => ?_) (fun σ H' ⟨low, high, x5, x6, hσ, e, z0, z1, z2, z3, z5⟩ => ?_)
    · subst hσ e
      refine ⟨_, rfl, _, rfl, _, _, rfl, rfl, _, _, rfl, rfl, _, rfl, way2 (fun h => ?_) (fun h => ?_)⟩
      · have eh : low = N := by omega
        subst eh
        exact ⟨_, rfl, k⟩
      · obtain ⟨k1, k2, k3, k4⟩ := half_step (by omega) z5
        refine ⟨_, rfl, _, rfl, _, _, rfl, rfl, _, _, rfl, rfl, ⟨by decide, by decide⟩, ?_⟩
        refine ⟨_, rfl, _, rfl, _, rfl, _, rfl, (low + high) / 2, p, q, d, rfl, by omega, by omega, by omega, by omega, q0, q1, d0, hns, hq, _, rfl, ?_⟩
        rw [eN]
        refine way2 (fun h => ?_) (fun h => ?_)
        · exact ⟨_, rfl, (low + high) / 2, high, _, _, rfl, rfl, h, z1, by omega, z3, k2⟩
        · exact ⟨_, rfl, low, (low + high) / 2, _, _, rfl, rfl, z0, by omega, z2, by omega, k1⟩
    · subst hσ e
      have eh : low = N := by
        by_cases z : high - low - 1 ≤ 0
        · omega
        · have a : 1 * (2 : Int) ^ 60 ≤ (high - low - 1) * 2 ^ 60 := Int.mul_le_mul_of_nonneg_right (by omega) (by decide)
          have b : (2 : Int) ^ 60 = 1152921504606846976 := by decide
          omega
      subst eh
      exact ⟨_, rfl, k⟩
def spExpandX (C : Addr) : Sp := fun vs H Q E => ∃ p q d : Int, vs = [.int p, .int q, .int d] ∧ p.natAbs < 2 ^ 60 ∧ 0 ≤ d ∧ d < 2 ^ 60 ∧ (rootI d * rootI d = d ∨ q = 0 ∨ (d - p * p).fmod q ≠ 0) ∧
  ∀ H' dd, H' dd = some (.xd [(("what" : Str), .int q)]) → E (.ref C) (some dd) H'
theorem okExpandX (T : Txt K mg fa fd) : FnOk P w K mg base (L2.CX P w) 3 (fa 2) (fd 2) ["p", "q", "d"] (spExpandX (fa 17)) := by
  refine T.F_expand.okX scExpand (fun vs H Q E h => ?_) (fun cdv A outer s H vs Q E hr h => ?_)
  · obtain ⟨p, q, d, rfl, _⟩ := h
    rfl
  · obtain ⟨p, q, d, rfl, hp, hd0, hd1, hbad, k⟩ := h
    refine ⟨_, (pss_cons (ps_if (PW.pt (pw_or (pt_val (pe_call (okIsSquare T) hr (by rfl) T.G_is_square T.F_is_square.kp T.B_is_square .nil pass0 (pa_cons (pv 2) pa_nil))) (pw_or (pt_cmp (pc_eqI (pv 1) pe_int)) (pw_or1 (pt_cmp (pc_neI (pe_op op_modN (pe_op op_sub (pv 2) (pe_op op_mul (pv 0) (pv 0))) (pv 1)) pe_int)))))) (pss_one (ps_raise rfl (takes_of rfl rfl rfl rfl) (pmk_oex T.X_oex T.X_in T.X_ty (okInit T.X_fn) (hr.mono (by decide)) T.X_b .nil pass0 (by rfl) T.g_BadForm (pa_cons (pv 1) pa_nil)))) pss_nil) (pss_cons ps_never (pss_cons ps_never (pss_cons ps_never (pss_cons ps_never (pss_cons ps_never (pss_one ps_never))))))), ?_⟩
    have hd2 : d < 1152921504606846976 := hd1
    have p61 : p.natAbs < 1152921504606846976 := hp
    have d13 : d.natAbs < 2 ^ 13000 := pow_up (a := 60) (by show d.natAbs < 1152921504606846976; omega) (by decide)
    have fin : tMkO (fa 17) (spInit K) [] (tCons (tVar 1) tNil) [some (.int p), some (.int q), some (.int d), none, none, none, none, none] H fun cls d' H' => E cls d' H' := by
      refine ⟨_, rfl, by show (1 : Nat) ≤ 1000; decide, fun a na => ⟨a, _, .int q, rfl, T.X_oex, T.X_err.hw, upd_same, fun dx ndx ne => ⟨rfl, dx, _, upd_same, (upd_ne ne).trans upd_same, (upd_ne ne).symm.trans ndx, k _ dx upd_same⟩⟩⟩
    refine ⟨_, rfl, d, rfl, d13, _, rfl, way2 (fun z => ?_) (fun z => ?_)⟩
    · exact fin
    refine ⟨_, rfl, _, _, rfl, rfl, _, rfl, way2 (fun hq0 => ?_) (fun hq0 => ?_)⟩
    · exact fin
    refine ⟨_, rfl, _, rfl, _, rfl, _, _, rfl, rfl, .inl ⟨by omega, by omega⟩, _, _, rfl, rfl, _, rfl, _, _, rfl, rfl, hq0, _, _, rfl, rfl, _, rfl, wayN2 (fun h9 => ?_) (fun h9 => ?_)⟩
    · exact fin
    · exfalso
      rcases hbad with h | h | h
      · exact z ⟨hd0, h⟩
      · exact hq0 h
      · exact h h9
def spLawRefused (_ : PySem.W.Frag) : Sp := fun vs H Q _ => ∃ p q d : Int, vs = [.int p, .int q, .int d] ∧ p.natAbs < 2 ^ 60 ∧ 0 ≤ d ∧ d < 2 ^ 60 ∧ (rootI d * rootI d = d ∨ q = 0 ∨ (d - p * p).fmod q ≠ 0) ∧ ∀ H', Q (.bl true) H'
theorem okLawRefused (T : Txt K mg fa fd) : FnOk P w K mg base CX0 4 (fa 13) (fd 13) ["p", "q", "d"] (spLawRefused K) := by
  refine T.F__law_refused.ok scLawRefused (fun vs H Q E h => ?_) (fun cdv A outer s H vs Q E hr h => ?_)
  · obtain ⟨p, q, d, rfl, _⟩ := h
    rfl
  · obtain ⟨p, q, d, rfl, hp, hd0, hd1, hbad, k⟩ := h
    refine ⟨_, (pss_cons (ps_try_as (i := 3) (tb := fun W => tDrop (tCallS (spExpandX (fa 17)) (WE W) (tCons (tVar 0) (tCons (tVar 1) (tCons (tVar 2) tNil))))) (Wout := fun _ _ _ _ => False) rfl rfl scLawRefused.nd rfl rfl ⟨by rfl, by decide, Or.inl T.g_ConicError⟩ takes0
      (fun W pn xe tk _ => pss_one (ps_expr (by exact (pe_callS (okExpandX T) hr (by rfl) T.G_expand T.F_expand.kp T.B_expand (fun σ => passAt tk σ) (by exact (pa_cons (pv 0) (pa_cons (pv 1) (pa_cons (pv 2) pa_nil))))))))
      (fun a oe cls d pn hz hf => pss_one (ps_ret (by exact (pe_and (pe_callB (call_isW hz hf) (by rfl) T.m_isinstance (by decide +kernel) (pa_cons (pv 3) (pa_cons (pe_glob (v := .ref (fa 17)) (by rfl) T.g_BadForm rfl) pa_nil))) (pe_and (pe_not (pe_callB (call_isW hz hf) (by rfl) T.m_isinstance (by decide +kernel) (pa_cons (pv 3) (pa_cons (pe_glob (v := .ref (fa 16)) (by rfl) T.g_BadText rfl) pa_nil)))) (pe_one (pe_cmpR op_eq (pe_what hz hf (pv 3)) (pv 1) (nomark _)))))))))
      (pss_one (ps_ret pe_bl))), ?_⟩
    refine ⟨_, rfl, _, rfl, _, rfl, p, q, d, rfl, hp, hd0, hd1, hbad, fun H' dd hdd => ⟨true, T.X_ex, fun _ a na => ?_, fun z => Bool.noConfusion z⟩⟩
    refine ⟨_, rfl, _, _, true, _, dd, _, rfl, T.X_err, rfl, rfl, fun u r => r, hdd, T.X_k1, _, rfl, iteT ?_⟩
    refine ⟨_, rfl, _, _, false, _, dd, _, rfl, T.X_err, rfl, rfl, fun u r => r, hdd, T.X_k2, _, rfl, _, rfl, iteT ?_⟩
    refine ⟨_, rfl, rfl, _, dd, _, T.X_err, rfl, rfl, hdd, _, rfl, rfl, ?_⟩
    have e : decide (V.int q = V.int q) = true := decide_eq_true rfl
    show Q (.bl (decide (V.int q = V.int q))) H'
    rw [e]
    exact k _
def spLaw (K : PySem.W.Frag) : Sp := fun vs H Q _ => ∃ (a : Addr) (ns : List Int), vs = [.ref a] ∧ SqL K H a (ns.map V.int) ∧ ns.length ≤ 63 ∧ ∀ H', Q (.bl true) H'
theorem okLaw (T : Txt K mg fa fd) : FnOk P w K mg base CX0 5 (fa 14) (fd 14) ["script"] (spLaw K) := by
  refine T.F_law.ok scLaw (fun vs H Q E h => ?_) (fun cdv A outer s H vs Q E hr h => ?_)
  · obtain ⟨l, ns, rfl, hS, hlen, qq⟩ := h
    rfl
  · obtain ⟨l, ns, rfl, hS, hlen, qq⟩ := h
    refine ⟨_, (pss_cons (ps_set (i := 1) scLaw.nd rfl (Or.inl rfl) (pe_call (sp := spLawState K) (okLawState T) (hr.mono (by decide)) (by rfl) T.G__law_state T.F__law_state.kp T.B__law_state .nil pass0 (pa_cons (pv 0) pa_nil)))
      (pss_cons (ps_set (i := 2) scLaw.nd rfl (Or.inl rfl) (pe_op op_add (pe_ix (ixL K) (pe_lst (pa_cons pe_int (pa_cons pe_int pa_nil))) (pe_callTy call_int1 (by rfl) T.m_int (by decide +kernel) (pa_cons (pe_cmp (pc_eqI (pe_call (sp := spLawNext K) (okLawNext T) (hr.mono (by decide)) (by rfl) T.G__law_next T.F__law_next.kp T.B__law_next .nil pass0 (pa_cons (pv 1) (pa_cons pe_int pa_nil))) pe_int)) pa_nil)) (fun _ _ => rfl)) (pe_call (sp := spLawNext K) (okLawNext T) (hr.mono (by decide)) (by rfl) T.G__law_next T.F__law_next.kp T.B__law_next .nil pass0 (pa_cons (pv 1) (pa_cons (pe_ix (ixL K) (pe_lst (pa_cons pe_int (pa_cons pe_int (pa_cons pe_int pa_nil)))) (pe_call (sp := spLawNext K) (okLawNext T) (hr.mono (by decide)) (by rfl) T.G__law_next T.F__law_next.kp T.B__law_next .nil pass0 (pa_cons (pv 1) (pa_cons pe_int pa_nil))) (fun _ _ => rfl)) pa_nil)))))
      (pss_cons (ps_set (i := 3) scLaw.nd rfl (Or.inl rfl) (pe_ix (ixL K) (pe_lst (pa_cons (pe_op op_sub (pe_call (sp := spLawNext K) (okLawNext T) (hr.mono (by decide)) (by rfl) T.G__law_next T.F__law_next.kp T.B__law_next .nil pass0 (pa_cons (pv 1) (pa_cons pe_int pa_nil))) pe_int) (pa_cons (pe_op op_sub (pe_call (sp := spLawWide K) (okLawWide T) (hr.mono (by decide)) (by rfl) T.G__law_wide T.F__law_wide.kp T.B__law_wide .nil pass0 (pa_cons (pv 1) (pa_cons (pe_op op_pow pe_int pe_int) pa_nil))) pe_int) pa_nil))) (pe_callTy call_int1 (by rfl) T.m_int (by decide +kernel) (pa_cons (pe_cmp (pc_eqI (pe_call (sp := spLawNext K) (okLawNext T) (hr.mono (by decide)) (by rfl) T.G__law_next T.F__law_next.kp T.B__law_next .nil pass0 (pa_cons (pv 1) (pa_cons pe_int pa_nil))) pe_int)) pa_nil)) (fun _ _ => rfl)))
      (pss_cons (ps_set (i := 4) scLaw.nd rfl (Or.inl rfl) (pe_call (sp := spLawRoot K) (okLawRoot T) (hr.mono (by decide)) (by rfl) T.G__law_root T.F__law_root.kp T.B__law_root .nil pass0 (pa_cons (pv 2) pa_nil)))
      (pss_cons (ps_set (i := 5) scLaw.nd rfl (Or.inl rfl) (pe_cmp (pc_eqI (pe_op op_mulW (pv 4) (pv 4)) (pv 2))))
      (pss_cons (ps_set (i := 6) scLaw.nd rfl (Or.inr rfl) (pe_callB call_abs (by rfl) T.m_abs (by decide +kernel) (pa_cons (pe_op op_sub (pv 2) (pe_op op_mulW (pv 3) (pv 3))) pa_nil)))
      (pss_cons (ps_setLc (i := 8) (own := [("q", 7)]) (g := gName 7)  rfl scLaw.nd rfl rfl (sw_true rfl rfl rfl (by decide +kernel)) (pi_range2 (by rfl) T.m_range (pa_cons pe_int (pa_cons (pe_op op_add (pe_callB (minQ K) (by rfl) T.m_min (by decide +kernel) (pa_cons (pe_lst (pa_cons (pv 6) (pa_cons pe_int pa_nil))) pa_nil)) pe_int) pa_nil))) (blkOk_by (own := [("q", 7)]) (N := ["script", "state", "d", "p", "root", "square", "top", "q", "menu", "seen", "parts", "at", "k", "part", "after", "first", "told", "due"]) (sc := defScope sLaw) (by decide +kernel)) (fun _ _ _ _ _ => (pg_name (i := 7) scLaw.nd rfl (Or.inl rfl))) (fun _ _ _ _ _ => (pts_one (pt_cmp (pc_eqI (pe_op op_mod (pv 6) (pv 7)) pe_int)))) (fun _ _ _ _ _ => (pv 7)))
      (pss_cons (ps_set (i := 7) scLaw.nd rfl (Or.inl rfl) (pe_ix (ixL K) (pe_lst (pa_cons (pe_un un_neg pe_int) (pa_cons pe_int pa_nil))) (pe_call (sp := spLawNext K) (okLawNext T) (hr.mono (by decide)) (by rfl) T.G__law_next T.F__law_next.kp T.B__law_next .nil pass0 (pa_cons (pv 1) (pa_cons pe_int pa_nil))) (fun _ _ => rfl)))
      (C8.pss_cut (ps_if (pt_cmpR (neDQ K hr.units) (pv 8) (pe_lst pa_nil) (nomark _))
      (pss_one (ps_set (i := 7) scLaw.nd rfl (Or.inl rfl) (pe_op op_mulW (pv 7) (pe_ix (ixL K) (pv 8) (pe_call (sp := spLawNext K) (okLawNext T) (hr.mono (by decide)) (by rfl) T.G__law_next T.F__law_next.kp T.B__law_next .nil pass0 (pa_cons (pv 1) (pa_cons (pe_callB (lenQ K) (by rfl) T.m_len (by decide +kernel) (pa_cons (pv 8) pa_nil)) pa_nil))) (fun _ _ => rfl)))))
      pss_nil)
      (C8.pss_cut (ps_if (pt_cmp (pc_eqI (pe_call (sp := spLawNext K) (okLawNext T) (hr.mono (by decide)) (by rfl) T.G__law_next T.F__law_next.kp T.B__law_next .nil pass0 (pa_cons (pv 1) (pa_cons pe_int pa_nil))) pe_int))
      (pss_one (ps_set (i := 7) scLaw.nd rfl (Or.inl rfl) (pe_op op_sub (pe_call (sp := spLawNext K) (okLawNext T) (hr.mono (by decide)) (by rfl) T.G__law_next T.F__law_next.kp T.B__law_next .nil pass0 (pa_cons (pv 1) (pa_cons pe_int pa_nil))) pe_int)))
      pss_nil)
      (pss_cons (ps_if (PW.pt (pw_or (pt_val (pv 5)) (pw_or (pt_cmp (pc_eqI (pv 7) pe_int)) (pw_or1 (pt_cmp (pc_neI (pe_op op_modN (pe_op op_sub (pv 2) (pe_op op_mulW (pv 3) (pv 3))) (pv 7)) pe_int))))))
      (pss_one (ps_ret (pe_call (sp := spLawRefused K) (okLawRefused T) hr (by rfl) T.G__law_refused T.F__law_refused.kp T.B__law_refused .nil pass0 (pa_cons (pv 3) (pa_cons (pv 7) (pa_cons (pv 2) pa_nil))))))
      pss_nil)
      (pss_cons (ps_set (i := 9) scLaw.nd rfl (Or.inl rfl) pe_dnewT)
      (pss_cons (ps_set (i := 10) scLaw.nd rfl (Or.inl rfl) (pe_lst pa_nil))
      (pss_cons (ps_set (i := 11) scLaw.nd rfl (Or.inl rfl) (pe_tup (pa_cons (pv 3) (pa_cons (pv 7) pa_nil))))
      (pss_cons (ps_for PassesOwn.never rfl (pi_range1 (by rfl) T.m_range (pa_cons pe_int pa_nil)) (pg_name (i := 12) scLaw.nd rfl (Or.inl rfl))
      (pss_cons (ps_if (pt_cmp (pc_din (hu_of hr) (pv 11) (pv 9)))
        (pss_one ps_break)
        pss_nil)
        (pss_cons (ps_dput (hu_of hr) (pv 9) (pv 11) (pe_callB (lenQ K) (by rfl) T.m_len (by decide +kernel) (pa_cons (pv 10) pa_nil)) rfl)
        (pss_cons (ps_set (i := 13) scLaw.nd rfl (Or.inl rfl) (pe_call (sp := spLawPart K) (okLawPart T) (hr.mono (by decide)) (by rfl) T.G__law_part T.F__law_part.kp T.B__law_part .nil pass0 (pa_cons (pe_ix (ixT K) (pv 11) pe_int (fun _ _ => rfl)) (pa_cons (pe_ix (ixT K) (pv 11) pe_int (fun _ _ => rfl)) (pa_cons (pv 2) pa_nil)))))
        (pss_cons (ps_expr (pe_bm PySem.F.plainAttrs_list PySem.F.slot_list_append PySem.F.type_list_append mt_append (pv 10) (pa_cons (pv 13) pa_nil)))
        (pss_cons (ps_set (i := 14) scLaw.nd rfl (Or.inl rfl) (pe_op op_sub (pe_op op_mulW (pv 13) (pe_ix (ixT K) (pv 11) pe_int (fun _ _ => rfl))) (pe_ix (ixT K) (pv 11) pe_int (fun _ _ => rfl))))
        (pss_one (ps_set (i := 11) scLaw.nd rfl (Or.inl rfl) (pe_tup (pa_cons (pv 14) (pa_cons (pe_op op_fdivX (pe_op op_sub (pv 2) (pe_op op_mulW (pv 14) (pv 14))) (pe_ix (ixT K) (pv 11) pe_int (fun _ _ => rfl))) pa_nil)))))))))))
      (pss_cons (ps_set (i := 15) scLaw.nd rfl (Or.inl rfl) (pe_dget (hu_of hr) (pv 9) (pv 11) (fun _ _ => rfl)))
      (pss_cons (ps_set (i := 16) scLaw.nd rfl (Or.inl rfl) (pe_call (sp := spExpand K) (okExpand T) (hr.mono (by decide)) (by rfl) T.G_expand T.F_expand.kp T.B_expand .nil pass0 (pa_cons (pv 3) (pa_cons (pv 7) (pa_cons (pv 2) pa_nil)))))
      (pss_cons (ps_if (pt_cmpR (neDQ K hr.units) (pv 16) (pe_tup (pa_cons (pe_callTy (tupQ K) (by rfl) T.m_tuple (by decide +kernel) (pa_cons (pe_slice (slL K) (pv 10) po_none (po_some (pv 15))) pa_nil)) (pa_cons (pe_callTy (tupQ K) (by rfl) T.m_tuple (by decide +kernel) (pa_cons (pe_slice (slL K) (pv 10) (po_some (pv 15)) po_none) pa_nil)) pa_nil))) (nomark _))
      (pss_one (ps_ret pe_bl))
      pss_nil)
      (pss_cons (ps_set (i := 12) scLaw.nd rfl (Or.inl rfl) (pe_call (sp := spLawNext K) (okLawNext T) (hr.mono (by decide)) (by rfl) T.G__law_next T.F__law_next.kp T.B__law_next .nil pass0 (pa_cons (pv 1) (pa_cons pe_int pa_nil))))
      (pss_cons (ps_set (i := 17) scLaw.nd rfl (Or.inl rfl) (pe_ix (ixL K) (pe_op op_cat (pv 10) (pe_op op_rep (pe_slice (slL K) (pv 10) (po_some (pv 15)) po_none) pe_int)) (pv 12) (fun _ _ => rfl)))
      (pss_one (ps_ret (pe_cmp (pc_eqI (pe_call (sp := spPartAt K) (okPartAt T) (hr.mono (by decide)) (by rfl) T.G_part_at T.F_part_at.kp T.B_part_at .nil pass0 (pa_cons (pv 16) (pa_cons (pv 12) pa_nil))) (pv 17))))))))))))))))))))))))), ?_⟩
    repeat' (first
      | with_reducible apply R.var
      | ((with_reducible apply R.isEq); exact rfl)
      | with_reducible apply R.op
      | with_reducible apply R.i2
      | with_reducible apply R.i0
      | with_reducible apply R.con
      | with_reducible apply R.cons
      | with_reducible apply R.nil
      | with_reducible apply R.gcons
      | with_reducible apply R.gname
      | ((with_reducible apply R.ixT); (focus ((repeat' (first | with_reducible assumption | with_reducible apply hU | ((with_reducible apply SqT.of); with_reducible assumption) | ((with_reducible apply same_seqT); with_reducible assumption) | ((with_reducible apply kp_seqT); with_reducible assumption) | ((with_reducible apply Dw.same); with_reducible assumption))); done)); exact rfl)
      | ((with_reducible apply R.ixL); (focus ((repeat' (first | with_reducible assumption | ((with_reducible apply SqL.of); with_reducible assumption) | ((with_reducible apply Same.seq); with_reducible assumption) | ((with_reducible apply Kp.seqL); with_reducible assumption) | ((with_reducible apply fresh_ne); with_reducible assumption) | ((with_reducible apply Dw.same); with_reducible assumption))); done)); exact rfl)
      | with_reducible assumption
      | with_reducible apply Bd.mulW
      | with_reducible apply Bd.mul
      | with_reducible apply Bd.add
      | with_reducible apply Bd.sub
      | ((with_reducible apply Bd.l8); exact eq_true (by decide))
      | ((with_reducible apply Bd.lit); exact eq_true (by decide))
      | with_reducible apply Bd.neg
      | with_reducible apply Bd.div
      | with_reducible apply Bd.abs
      | with_reducible apply Bd.mod
      | with_reducible apply Bd.fdiv
      | ((with_reducible apply Bd.om); omega)
      | ((with_reducible apply R.isLe); first | decide | omega)
      | with_reducible apply R.un
      | with_reducible apply R.u1
      | with_reducible apply R.tup
      | with_reducible apply R.lst
      | with_reducible apply R.call
      | with_reducible apply R.callB
      | with_reducible apply R.gtup
      | with_reducible apply R.gnil
      | with_reducible apply R.seq
      | with_reducible apply R.asg
      | with_reducible apply R.ret
      | with_reducible apply R.brk
      | with_reducible apply R.cont
      | with_reducible apply R.next
      | with_reducible apply R.drop
      | with_reducible apply R.par
      | with_reducible apply R.par2
      | with_reducible apply R.ifs
      | with_reducible apply R.tif
      | with_reducible apply R.test
      | with_reducible apply R.tb'
      | with_reducible apply R.isbl
      | with_reducible apply R.cmp
      | with_reducible apply R.t2i
      | with_reducible apply R.intp
      | with_reducible apply R.and
      | with_reducible apply R.or
      | with_reducible apply R.not
      | with_reducible apply R.andV
      | with_reducible apply R.orV
      | with_reducible apply R.notV
      | with_reducible apply R.chain
      | with_reducible apply R.tupL
      | with_reducible apply R.lstL
      | with_reducible apply R.cat
      | with_reducible apply R.absI
      | with_reducible apply R.intI
      | with_reducible apply R.intB
      | with_reducible apply R.eqS
      | with_reducible apply R.eqBl
      | with_reducible apply R.neBl
      | with_reducible apply R.sl
      | with_reducible apply R.noPart
      | with_reducible apply R.part
      | with_reducible apply R.isInt
      | with_reducible apply R.slL
      | with_reducible apply R.isiT
      | with_reducible apply R.isiLst
      | with_reducible apply R.nwT
      | with_reducible apply R.nwL
      | ((with_reducible apply R.mt); intro HN tn sn nn ht)
      | ((with_reducible apply R.ml); intro HN tn sn nn ht)
      | ((with_reducible apply R.isiTupS); focus ((repeat' (first | with_reducible assumption | with_reducible apply hU | ((with_reducible apply SqT.of); with_reducible assumption) | ((with_reducible apply same_seqT); with_reducible assumption) | ((with_reducible apply kp_seqT); with_reducible assumption) | ((with_reducible apply Dw.same); with_reducible assumption))); done))
      | ((with_reducible apply R.ne4); focus ((repeat' (first | with_reducible assumption | with_reducible apply hU | ((with_reducible apply SqT.of); with_reducible assumption) | ((with_reducible apply same_seqT); with_reducible assumption) | ((with_reducible apply kp_seqT); with_reducible assumption) | ((with_reducible apply Dw.same); with_reducible assumption))); done))
      | ((with_reducible apply R.ne3); focus ((repeat' (first | with_reducible assumption | with_reducible apply hU | ((with_reducible apply SqT.of); with_reducible assumption) | ((with_reducible apply same_seqT); with_reducible assumption) | ((with_reducible apply kp_seqT); with_reducible assumption) | ((with_reducible apply Dw.same); with_reducible assumption))); done))
      | ((with_reducible apply R.ne2); focus ((repeat' (first | with_reducible assumption | with_reducible apply hU | ((with_reducible apply SqT.of); with_reducible assumption) | ((with_reducible apply same_seqT); with_reducible assumption) | ((with_reducible apply kp_seqT); with_reducible assumption) | ((with_reducible apply Dw.same); with_reducible assumption))); done))
      | ((with_reducible apply R.eq4); focus ((repeat' (first | with_reducible assumption | with_reducible apply hU | ((with_reducible apply SqT.of); with_reducible assumption) | ((with_reducible apply same_seqT); with_reducible assumption) | ((with_reducible apply kp_seqT); with_reducible assumption) | ((with_reducible apply Dw.same); with_reducible assumption))); done))
      | ((with_reducible apply R.eq3); focus ((repeat' (first | with_reducible assumption | with_reducible apply hU | ((with_reducible apply SqT.of); with_reducible assumption) | ((with_reducible apply same_seqT); with_reducible assumption) | ((with_reducible apply kp_seqT); with_reducible assumption) | ((with_reducible apply Dw.same); with_reducible assumption))); done))
      | ((with_reducible apply R.eq2); focus ((repeat' (first | with_reducible assumption | with_reducible apply hU | ((with_reducible apply SqT.of); with_reducible assumption) | ((with_reducible apply same_seqT); with_reducible assumption) | ((with_reducible apply kp_seqT); with_reducible assumption) | ((with_reducible apply Dw.same); with_reducible assumption))); done))
      | with_reducible apply uLawNext
      | with_reducible apply uLawWide
      | ((with_reducible apply R.nw); intro HN tn sn ht)
      | with_reducible apply iteT
      | with_reducible apply iteF
      | with_reducible apply R.notT
      | with_reducible apply R.notF
      | ((with_reducible apply SqT.of); with_reducible assumption)
      | ((with_reducible apply SqL.of); with_reducible assumption)
      | ((with_reducible apply same_seqT); with_reducible assumption)
      | ((with_reducible apply sameB); with_reducible assumption)
      | ((with_reducible apply same_at); with_reducible assumption)
      | ((with_reducible apply kp_seqT); with_reducible assumption)
      | ((with_reducible apply Same.seq); with_reducible assumption)
      | ((with_reducible apply Kp.seqL); with_reducible assumption)
      | ((with_reducible apply fresh_ne); with_reducible assumption)
      | ((with_reducible apply Dw.same); with_reducible assumption)
      | ((with_reducible apply R.isEq); exact eq_true (by first | decide | omega))
      | ((with_reducible apply R.isLt); first | decide | omega)
      | ((with_reducible apply R.isLtI); first | decide | omega)
      | ((with_reducible apply R.isLeI); first | decide | omega)
      | ((with_reducible apply R.cdiv); exact rfl)
      | ((with_reducible apply R.cpow); exact rfl)
      | with_reducible apply R.cdivX
      | ((with_reducible apply R.isNe); omega)
      | with_reducible apply hU
      | ((with_reducible apply wayNF); first | exact rfl | exact ⟨rfl, rfl⟩ | exact ⟨rfl, rfl, rfl⟩ | exact ⟨rfl, rfl, rfl, rfl⟩)
      | with_reducible apply R.forE
      | with_reducible apply R.rng1
      | with_reducible apply R.rng2
      | with_reducible apply R.rg1
      | with_reducible apply R.rg2
      | with_reducible apply R.lcE
      | with_reducible apply R.itup
      | with_reducible apply R.ilst
      )
    refine ⟨l, ns, rfl, hS, fun H1 p a s1 d1 => ?_⟩
    repeat' (first
      | with_reducible apply R.var
      | ((with_reducible apply R.isEq); exact rfl)
      | with_reducible apply R.op
      | with_reducible apply R.i2
      | with_reducible apply R.i0
      | with_reducible apply R.con
      | with_reducible apply R.cons
      | with_reducible apply R.nil
      | with_reducible apply R.gcons
      | with_reducible apply R.gname
      | ((with_reducible apply R.ixT); (focus ((repeat' (first | with_reducible assumption | with_reducible apply hU | ((with_reducible apply SqT.of); with_reducible assumption) | ((with_reducible apply same_seqT); with_reducible assumption) | ((with_reducible apply kp_seqT); with_reducible assumption) | ((with_reducible apply Dw.same); with_reducible assumption))); done)); exact rfl)
      | ((with_reducible apply R.ixL); (focus ((repeat' (first | with_reducible assumption | ((with_reducible apply SqL.of); with_reducible assumption) | ((with_reducible apply Same.seq); with_reducible assumption) | ((with_reducible apply Kp.seqL); with_reducible assumption) | ((with_reducible apply fresh_ne); with_reducible assumption) | ((with_reducible apply Dw.same); with_reducible assumption))); done)); exact rfl)
      | with_reducible assumption
      | with_reducible apply Bd.mulW
      | with_reducible apply Bd.mul
      | with_reducible apply Bd.add
      | with_reducible apply Bd.sub
      | ((with_reducible apply Bd.l8); exact eq_true (by decide))
      | ((with_reducible apply Bd.lit); exact eq_true (by decide))
      | with_reducible apply Bd.neg
      | with_reducible apply Bd.div
      | with_reducible apply Bd.abs
      | with_reducible apply Bd.mod
      | with_reducible apply Bd.fdiv
      | ((with_reducible apply Bd.om); omega)
      | ((with_reducible apply R.isLe); first | decide | omega)
      | with_reducible apply R.un
      | with_reducible apply R.u1
      | with_reducible apply R.tup
      | with_reducible apply R.lst
      | with_reducible apply R.call
      | with_reducible apply R.callB
      | with_reducible apply R.gtup
      | with_reducible apply R.gnil
      | with_reducible apply R.seq
      | with_reducible apply R.asg
      | with_reducible apply R.ret
      | with_reducible apply R.brk
      | with_reducible apply R.cont
      | with_reducible apply R.next
      | with_reducible apply R.drop
      | with_reducible apply R.par
      | with_reducible apply R.par2
      | with_reducible apply R.ifs
      | with_reducible apply R.tif
      | with_reducible apply R.test
      | with_reducible apply R.tb'
      | with_reducible apply R.isbl
      | with_reducible apply R.cmp
      | with_reducible apply R.t2i
      | with_reducible apply R.intp
      | with_reducible apply R.and
      | with_reducible apply R.or
      | with_reducible apply R.not
      | with_reducible apply R.andV
      | with_reducible apply R.orV
      | with_reducible apply R.notV
      | with_reducible apply R.chain
      | with_reducible apply R.tupL
      | with_reducible apply R.lstL
      | with_reducible apply R.cat
      | with_reducible apply R.absI
      | with_reducible apply R.intI
      | with_reducible apply R.intB
      | with_reducible apply R.eqS
      | with_reducible apply R.eqBl
      | with_reducible apply R.neBl
      | with_reducible apply R.sl
      | with_reducible apply R.noPart
      | with_reducible apply R.part
      | with_reducible apply R.isInt
      | with_reducible apply R.slL
      | with_reducible apply R.isiT
      | with_reducible apply R.isiLst
      | with_reducible apply R.nwT
      | with_reducible apply R.nwL
      | ((with_reducible apply R.mt); intro HN tn sn nn ht)
      | ((with_reducible apply R.ml); intro HN tn sn nn ht)
      | ((with_reducible apply R.isiTupS); focus ((repeat' (first | with_reducible assumption | with_reducible apply hU | ((with_reducible apply SqT.of); with_reducible assumption) | ((with_reducible apply same_seqT); with_reducible assumption) | ((with_reducible apply kp_seqT); with_reducible assumption) | ((with_reducible apply Dw.same); with_reducible assumption))); done))
      | ((with_reducible apply R.ne4); focus ((repeat' (first | with_reducible assumption | with_reducible apply hU | ((with_reducible apply SqT.of); with_reducible assumption) | ((with_reducible apply same_seqT); with_reducible assumption) | ((with_reducible apply kp_seqT); with_reducible assumption) | ((with_reducible apply Dw.same); with_reducible assumption))); done))
      | ((with_reducible apply R.ne3); focus ((repeat' (first | with_reducible assumption | with_reducible apply hU | ((with_reducible apply SqT.of); with_reducible assumption) | ((with_reducible apply same_seqT); with_reducible assumption) | ((with_reducible apply kp_seqT); with_reducible assumption) | ((with_reducible apply Dw.same); with_reducible assumption))); done))
      | ((with_reducible apply R.ne2); focus ((repeat' (first | with_reducible assumption | with_reducible apply hU | ((with_reducible apply SqT.of); with_reducible assumption) | ((with_reducible apply same_seqT); with_reducible assumption) | ((with_reducible apply kp_seqT); with_reducible assumption) | ((with_reducible apply Dw.same); with_reducible assumption))); done))
      | ((with_reducible apply R.eq4); focus ((repeat' (first | with_reducible assumption | with_reducible apply hU | ((with_reducible apply SqT.of); with_reducible assumption) | ((with_reducible apply same_seqT); with_reducible assumption) | ((with_reducible apply kp_seqT); with_reducible assumption) | ((with_reducible apply Dw.same); with_reducible assumption))); done))
      | ((with_reducible apply R.eq3); focus ((repeat' (first | with_reducible assumption | with_reducible apply hU | ((with_reducible apply SqT.of); with_reducible assumption) | ((with_reducible apply same_seqT); with_reducible assumption) | ((with_reducible apply kp_seqT); with_reducible assumption) | ((with_reducible apply Dw.same); with_reducible assumption))); done))
      | ((with_reducible apply R.eq2); focus ((repeat' (first | with_reducible assumption | with_reducible apply hU | ((with_reducible apply SqT.of); with_reducible assumption) | ((with_reducible apply same_seqT); with_reducible assumption) | ((with_reducible apply kp_seqT); with_reducible assumption) | ((with_reducible apply Dw.same); with_reducible assumption))); done))
      | with_reducible apply uLawNext
      | with_reducible apply uLawWide
      | ((with_reducible apply R.nw); intro HN tn sn ht)
      | with_reducible apply iteT
      | with_reducible apply iteF
      | with_reducible apply R.notT
      | with_reducible apply R.notF
      | ((with_reducible apply SqT.of); with_reducible assumption)
      | ((with_reducible apply SqL.of); with_reducible assumption)
      | ((with_reducible apply same_seqT); with_reducible assumption)
      | ((with_reducible apply sameB); with_reducible assumption)
      | ((with_reducible apply same_at); with_reducible assumption)
      | ((with_reducible apply kp_seqT); with_reducible assumption)
      | ((with_reducible apply Same.seq); with_reducible assumption)
      | ((with_reducible apply Kp.seqL); with_reducible assumption)
      | ((with_reducible apply fresh_ne); with_reducible assumption)
      | ((with_reducible apply Dw.same); with_reducible assumption)
      | ((with_reducible apply R.isEq); exact eq_true (by first | decide | omega))
      | ((with_reducible apply R.isLt); first | decide | omega)
      | ((with_reducible apply R.isLtI); first | decide | omega)
      | ((with_reducible apply R.isLeI); first | decide | omega)
      | ((with_reducible apply R.cdiv); exact rfl)
      | ((with_reducible apply R.cpow); exact rfl)
      | with_reducible apply R.cdivX
      | ((with_reducible apply R.isNe); omega)
      | with_reducible apply hU
      | ((with_reducible apply wayNF); first | exact rfl | exact ⟨rfl, rfl⟩ | exact ⟨rfl, rfl, rfl⟩ | exact ⟨rfl, rfl, rfl, rfl⟩)
      | with_reducible apply R.forE
      | with_reducible apply R.rng1
      | with_reducible apply R.rng2
      | with_reducible apply R.rg1
      | with_reducible apply R.rg2
      | with_reducible apply R.lcE
      | with_reducible apply R.itup
      | with_reducible apply R.ilst
      )
    intro r1 H2 r1a r1b d2 k2
    repeat' (first
      | with_reducible apply R.var
      | ((with_reducible apply R.isEq); exact rfl)
      | with_reducible apply R.op
      | with_reducible apply R.i2
      | with_reducible apply R.i0
      | with_reducible apply R.con
      | with_reducible apply R.cons
      | with_reducible apply R.nil
      | with_reducible apply R.gcons
      | with_reducible apply R.gname
      | ((with_reducible apply R.ixT); (focus ((repeat' (first | with_reducible assumption | with_reducible apply hU | ((with_reducible apply SqT.of); with_reducible assumption) | ((with_reducible apply same_seqT); with_reducible assumption) | ((with_reducible apply kp_seqT); with_reducible assumption) | ((with_reducible apply Dw.same); with_reducible assumption))); done)); exact rfl)
      | ((with_reducible apply R.ixL); (focus ((repeat' (first | with_reducible assumption | ((with_reducible apply SqL.of); with_reducible assumption) | ((with_reducible apply Same.seq); with_reducible assumption) | ((with_reducible apply Kp.seqL); with_reducible assumption) | ((with_reducible apply fresh_ne); with_reducible assumption) | ((with_reducible apply Dw.same); with_reducible assumption))); done)); exact rfl)
      | with_reducible assumption
      | with_reducible apply Bd.mulW
      | with_reducible apply Bd.mul
      | with_reducible apply Bd.add
      | with_reducible apply Bd.sub
      | ((with_reducible apply Bd.l8); exact eq_true (by decide))
      | ((with_reducible apply Bd.lit); exact eq_true (by decide))
      | with_reducible apply Bd.neg
      | with_reducible apply Bd.div
      | with_reducible apply Bd.abs
      | with_reducible apply Bd.mod
      | with_reducible apply Bd.fdiv
      | ((with_reducible apply Bd.om); omega)
      | ((with_reducible apply R.isLe); first | decide | omega)
      | with_reducible apply R.un
      | with_reducible apply R.u1
      | with_reducible apply R.tup
      | with_reducible apply R.lst
      | with_reducible apply R.call
      | with_reducible apply R.callB
      | with_reducible apply R.gtup
      | with_reducible apply R.gnil
      | with_reducible apply R.seq
      | with_reducible apply R.asg
      | with_reducible apply R.ret
      | with_reducible apply R.brk
      | with_reducible apply R.cont
      | with_reducible apply R.next
      | with_reducible apply R.drop
      | with_reducible apply R.par
      | with_reducible apply R.par2
      | with_reducible apply R.ifs
      | with_reducible apply R.tif
      | with_reducible apply R.test
      | with_reducible apply R.tb'
      | with_reducible apply R.isbl
      | with_reducible apply R.cmp
      | with_reducible apply R.t2i
      | with_reducible apply R.intp
      | with_reducible apply R.and
      | with_reducible apply R.or
      | with_reducible apply R.not
      | with_reducible apply R.andV
      | with_reducible apply R.orV
      | with_reducible apply R.notV
      | with_reducible apply R.chain
      | with_reducible apply R.tupL
      | with_reducible apply R.lstL
      | with_reducible apply R.cat
      | with_reducible apply R.absI
      | with_reducible apply R.intI
      | with_reducible apply R.intB
      | with_reducible apply R.eqS
      | with_reducible apply R.eqBl
      | with_reducible apply R.neBl
      | with_reducible apply R.sl
      | with_reducible apply R.noPart
      | with_reducible apply R.part
      | with_reducible apply R.isInt
      | with_reducible apply R.slL
      | with_reducible apply R.isiT
      | with_reducible apply R.isiLst
      | with_reducible apply R.nwT
      | with_reducible apply R.nwL
      | ((with_reducible apply R.mt); intro HN tn sn nn ht)
      | ((with_reducible apply R.ml); intro HN tn sn nn ht)
      | ((with_reducible apply R.isiTupS); focus ((repeat' (first | with_reducible assumption | with_reducible apply hU | ((with_reducible apply SqT.of); with_reducible assumption) | ((with_reducible apply same_seqT); with_reducible assumption) | ((with_reducible apply kp_seqT); with_reducible assumption) | ((with_reducible apply Dw.same); with_reducible assumption))); done))
      | ((with_reducible apply R.ne4); focus ((repeat' (first | with_reducible assumption | with_reducible apply hU | ((with_reducible apply SqT.of); with_reducible assumption) | ((with_reducible apply same_seqT); with_reducible assumption) | ((with_reducible apply kp_seqT); with_reducible assumption) | ((with_reducible apply Dw.same); with_reducible assumption))); done))
      | ((with_reducible apply R.ne3); focus ((repeat' (first | with_reducible assumption | with_reducible apply hU | ((with_reducible apply SqT.of); with_reducible assumption) | ((with_reducible apply same_seqT); with_reducible assumption) | ((with_reducible apply kp_seqT); with_reducible assumption) | ((with_reducible apply Dw.same); with_reducible assumption))); done))
      | ((with_reducible apply R.ne2); focus ((repeat' (first | with_reducible assumption | with_reducible apply hU | ((with_reducible apply SqT.of); with_reducible assumption) | ((with_reducible apply same_seqT); with_reducible assumption) | ((with_reducible apply kp_seqT); with_reducible assumption) | ((with_reducible apply Dw.same); with_reducible assumption))); done))
      | ((with_reducible apply R.eq4); focus ((repeat' (first | with_reducible assumption | with_reducible apply hU | ((with_reducible apply SqT.of); with_reducible assumption) | ((with_reducible apply same_seqT); with_reducible assumption) | ((with_reducible apply kp_seqT); with_reducible assumption) | ((with_reducible apply Dw.same); with_reducible assumption))); done))
      | ((with_reducible apply R.eq3); focus ((repeat' (first | with_reducible assumption | with_reducible apply hU | ((with_reducible apply SqT.of); with_reducible assumption) | ((with_reducible apply same_seqT); with_reducible assumption) | ((with_reducible apply kp_seqT); with_reducible assumption) | ((with_reducible apply Dw.same); with_reducible assumption))); done))
      | ((with_reducible apply R.eq2); focus ((repeat' (first | with_reducible assumption | with_reducible apply hU | ((with_reducible apply SqT.of); with_reducible assumption) | ((with_reducible apply same_seqT); with_reducible assumption) | ((with_reducible apply kp_seqT); with_reducible assumption) | ((with_reducible apply Dw.same); with_reducible assumption))); done))
      | with_reducible apply uLawNext
      | with_reducible apply uLawWide
      | ((with_reducible apply R.nw); intro HN tn sn ht)
      | with_reducible apply iteT
      | with_reducible apply iteF
      | with_reducible apply R.notT
      | with_reducible apply R.notF
      | ((with_reducible apply SqT.of); with_reducible assumption)
      | ((with_reducible apply SqL.of); with_reducible assumption)
      | ((with_reducible apply same_seqT); with_reducible assumption)
      | ((with_reducible apply sameB); with_reducible assumption)
      | ((with_reducible apply same_at); with_reducible assumption)
      | ((with_reducible apply kp_seqT); with_reducible assumption)
      | ((with_reducible apply Same.seq); with_reducible assumption)
      | ((with_reducible apply Kp.seqL); with_reducible assumption)
      | ((with_reducible apply fresh_ne); with_reducible assumption)
      | ((with_reducible apply Dw.same); with_reducible assumption)
      | ((with_reducible apply R.isEq); exact eq_true (by first | decide | omega))
      | ((with_reducible apply R.isLt); first | decide | omega)
      | ((with_reducible apply R.isLtI); first | decide | omega)
      | ((with_reducible apply R.isLeI); first | decide | omega)
      | ((with_reducible apply R.cdiv); exact rfl)
      | ((with_reducible apply R.cpow); exact rfl)
      | with_reducible apply R.cdivX
      | ((with_reducible apply R.isNe); omega)
      | with_reducible apply hU
      | ((with_reducible apply wayNF); first | exact rfl | exact ⟨rfl, rfl⟩ | exact ⟨rfl, rfl, rfl⟩ | exact ⟨rfl, rfl, rfl, rfl⟩)
      | with_reducible apply R.forE
      | with_reducible apply R.rng1
      | with_reducible apply R.rng2
      | with_reducible apply R.rg1
      | with_reducible apply R.rg2
      | with_reducible apply R.lcE
      | with_reducible apply R.itup
      | with_reducible apply R.ilst
      )
    refine .inr ⟨_, rfl, ?_⟩
    obtain ⟨dv, hdv, edv⟩ : ∃ v : Int, (v = 2 ∨ v = 0) ∧ atI [V.int 2, V.int 0] (if decide (r1 = 0) = true then 1 else 0) = some (.int v) := by
      by_cases z : r1 = 0
      · rw [if_pos (decide_eq_true z)]
        exact ⟨0, .inr rfl, rfl⟩
      · rw [if_neg (fun h => z (of_decide_eq_true h))]
        exact ⟨2, .inl rfl, rfl⟩
    refine R.ixL (xs := [V.int 2, V.int 0]) (by (repeat' (first | with_reducible assumption | ((with_reducible apply SqL.of); with_reducible assumption) | ((with_reducible apply Same.seq); with_reducible assumption) | ((with_reducible apply Kp.seqL); with_reducible assumption) | ((with_reducible apply fresh_ne); with_reducible assumption) | ((with_reducible apply Dw.same); with_reducible assumption)))) edv ?_
    repeat' (first
      | with_reducible apply R.var
      | ((with_reducible apply R.isEq); exact rfl)
      | with_reducible apply R.op
      | with_reducible apply R.i2
      | with_reducible apply R.i0
      | with_reducible apply R.con
      | with_reducible apply R.cons
      | with_reducible apply R.nil
      | with_reducible apply R.gcons
      | with_reducible apply R.gname
      | ((with_reducible apply R.ixT); (focus ((repeat' (first | with_reducible assumption | with_reducible apply hU | ((with_reducible apply SqT.of); with_reducible assumption) | ((with_reducible apply same_seqT); with_reducible assumption) | ((with_reducible apply kp_seqT); with_reducible assumption) | ((with_reducible apply Dw.same); with_reducible assumption))); done)); exact rfl)
      | ((with_reducible apply R.ixL); (focus ((repeat' (first | with_reducible assumption | ((with_reducible apply SqL.of); with_reducible assumption) | ((with_reducible apply Same.seq); with_reducible assumption) | ((with_reducible apply Kp.seqL); with_reducible assumption) | ((with_reducible apply fresh_ne); with_reducible assumption) | ((with_reducible apply Dw.same); with_reducible assumption))); done)); exact rfl)
      | with_reducible assumption
      | with_reducible apply Bd.mulW
      | with_reducible apply Bd.mul
      | with_reducible apply Bd.add
      | with_reducible apply Bd.sub
      | ((with_reducible apply Bd.l8); exact eq_true (by decide))
      | ((with_reducible apply Bd.lit); exact eq_true (by decide))
      | with_reducible apply Bd.neg
      | with_reducible apply Bd.div
      | with_reducible apply Bd.abs
      | with_reducible apply Bd.mod
      | with_reducible apply Bd.fdiv
      | ((with_reducible apply Bd.om); omega)
      | ((with_reducible apply R.isLe); first | decide | omega)
      | with_reducible apply R.un
      | with_reducible apply R.u1
      | with_reducible apply R.tup
      | with_reducible apply R.lst
      | with_reducible apply R.call
      | with_reducible apply R.callB
      | with_reducible apply R.gtup
      | with_reducible apply R.gnil
      | with_reducible apply R.seq
      | with_reducible apply R.asg
      | with_reducible apply R.ret
      | with_reducible apply R.brk
      | with_reducible apply R.cont
      | with_reducible apply R.next
      | with_reducible apply R.drop
      | with_reducible apply R.par
      | with_reducible apply R.par2
      | with_reducible apply R.ifs
      | with_reducible apply R.tif
      | with_reducible apply R.test
      | with_reducible apply R.tb'
      | with_reducible apply R.isbl
      | with_reducible apply R.cmp
      | with_reducible apply R.t2i
      | with_reducible apply R.intp
      | with_reducible apply R.and
      | with_reducible apply R.or
      | with_reducible apply R.not
      | with_reducible apply R.andV
      | with_reducible apply R.orV
      | with_reducible apply R.notV
      | with_reducible apply R.chain
      | with_reducible apply R.tupL
      | with_reducible apply R.lstL
      | with_reducible apply R.cat
      | with_reducible apply R.absI
      | with_reducible apply R.intI
      | with_reducible apply R.intB
      | with_reducible apply R.eqS
      | with_reducible apply R.eqBl
      | with_reducible apply R.neBl
      | with_reducible apply R.sl
      | with_reducible apply R.noPart
      | with_reducible apply R.part
      | with_reducible apply R.isInt
      | with_reducible apply R.slL
      | with_reducible apply R.isiT
      | with_reducible apply R.isiLst
      | with_reducible apply R.nwT
      | with_reducible apply R.nwL
      | ((with_reducible apply R.mt); intro HN tn sn nn ht)
      | ((with_reducible apply R.ml); intro HN tn sn nn ht)
      | ((with_reducible apply R.isiTupS); focus ((repeat' (first | with_reducible assumption | with_reducible apply hU | ((with_reducible apply SqT.of); with_reducible assumption) | ((with_reducible apply same_seqT); with_reducible assumption) | ((with_reducible apply kp_seqT); with_reducible assumption) | ((with_reducible apply Dw.same); with_reducible assumption))); done))
      | ((with_reducible apply R.ne4); focus ((repeat' (first | with_reducible assumption | with_reducible apply hU | ((with_reducible apply SqT.of); with_reducible assumption) | ((with_reducible apply same_seqT); with_reducible assumption) | ((with_reducible apply kp_seqT); with_reducible assumption) | ((with_reducible apply Dw.same); with_reducible assumption))); done))
      | ((with_reducible apply R.ne3); focus ((repeat' (first | with_reducible assumption | with_reducible apply hU | ((with_reducible apply SqT.of); with_reducible assumption) | ((with_reducible apply same_seqT); with_reducible assumption) | ((with_reducible apply kp_seqT); with_reducible assumption) | ((with_reducible apply Dw.same); with_reducible assumption))); done))
      | ((with_reducible apply R.ne2); focus ((repeat' (first | with_reducible assumption | with_reducible apply hU | ((with_reducible apply SqT.of); with_reducible assumption) | ((with_reducible apply same_seqT); with_reducible assumption) | ((with_reducible apply kp_seqT); with_reducible assumption) | ((with_reducible apply Dw.same); with_reducible assumption))); done))
      | ((with_reducible apply R.eq4); focus ((repeat' (first | with_reducible assumption | with_reducible apply hU | ((with_reducible apply SqT.of); with_reducible assumption) | ((with_reducible apply same_seqT); with_reducible assumption) | ((with_reducible apply kp_seqT); with_reducible assumption) | ((with_reducible apply Dw.same); with_reducible assumption))); done))
      | ((with_reducible apply R.eq3); focus ((repeat' (first | with_reducible assumption | with_reducible apply hU | ((with_reducible apply SqT.of); with_reducible assumption) | ((with_reducible apply same_seqT); with_reducible assumption) | ((with_reducible apply kp_seqT); with_reducible assumption) | ((with_reducible apply Dw.same); with_reducible assumption))); done))
      | ((with_reducible apply R.eq2); focus ((repeat' (first | with_reducible assumption | with_reducible apply hU | ((with_reducible apply SqT.of); with_reducible assumption) | ((with_reducible apply same_seqT); with_reducible assumption) | ((with_reducible apply kp_seqT); with_reducible assumption) | ((with_reducible apply Dw.same); with_reducible assumption))); done))
      | with_reducible apply uLawNext
      | with_reducible apply uLawWide
      | ((with_reducible apply R.nw); intro HN tn sn ht)
      | with_reducible apply iteT
      | with_reducible apply iteF
      | with_reducible apply R.notT
      | with_reducible apply R.notF
      | ((with_reducible apply SqT.of); with_reducible assumption)
      | ((with_reducible apply SqL.of); with_reducible assumption)
      | ((with_reducible apply same_seqT); with_reducible assumption)
      | ((with_reducible apply sameB); with_reducible assumption)
      | ((with_reducible apply same_at); with_reducible assumption)
      | ((with_reducible apply kp_seqT); with_reducible assumption)
      | ((with_reducible apply Same.seq); with_reducible assumption)
      | ((with_reducible apply Kp.seqL); with_reducible assumption)
      | ((with_reducible apply fresh_ne); with_reducible assumption)
      | ((with_reducible apply Dw.same); with_reducible assumption)
      | ((with_reducible apply R.isEq); exact eq_true (by first | decide | omega))
      | ((with_reducible apply R.isLt); first | decide | omega)
      | ((with_reducible apply R.isLtI); first | decide | omega)
      | ((with_reducible apply R.isLeI); first | decide | omega)
      | ((with_reducible apply R.cdiv); exact rfl)
      | ((with_reducible apply R.cpow); exact rfl)
      | with_reducible apply R.cdivX
      | ((with_reducible apply R.isNe); omega)
      | with_reducible apply hU
      | ((with_reducible apply wayNF); first | exact rfl | exact ⟨rfl, rfl⟩ | exact ⟨rfl, rfl, rfl⟩ | exact ⟨rfl, rfl, rfl, rfl⟩)
      | with_reducible apply R.forE
      | with_reducible apply R.rng1
      | with_reducible apply R.rng2
      | with_reducible apply R.rg1
      | with_reducible apply R.rg2
      | with_reducible apply R.lcE
      | with_reducible apply R.itup
      | with_reducible apply R.ilst
      )
    intro r2 H3 r2a r2b d3 k3
    obtain ⟨mv, hmv, emv⟩ : ∃ v : Int, (v = 60 ∨ v = 3000 ∨ v = 3) ∧ atI [V.int 60, V.int 3000, V.int 3] r2 = some (.int v) := by
      obtain rfl | rfl | rfl : r2 = 0 ∨ r2 = 1 ∨ r2 = 2 := by omega
      · exact ⟨60, .inl rfl, rfl⟩
      · exact ⟨3000, .inr (.inl rfl), rfl⟩
      · exact ⟨3, .inr (.inr rfl), rfl⟩
    refine R.ixL (xs := [V.int 60, V.int 3000, V.int 3]) (by (repeat' (first | with_reducible assumption | ((with_reducible apply SqL.of); with_reducible assumption) | ((with_reducible apply Same.seq); with_reducible assumption) | ((with_reducible apply Kp.seqL); with_reducible assumption) | ((with_reducible apply fresh_ne); with_reducible assumption) | ((with_reducible apply Dw.same); with_reducible assumption)))) emv ?_
    repeat' (first
      | with_reducible apply R.var
      | ((with_reducible apply R.isEq); exact rfl)
      | with_reducible apply R.op
      | with_reducible apply R.i2
      | with_reducible apply R.i0
      | with_reducible apply R.con
      | with_reducible apply R.cons
      | with_reducible apply R.nil
      | with_reducible apply R.gcons
      | with_reducible apply R.gname
      | ((with_reducible apply R.ixT); (focus ((repeat' (first | with_reducible assumption | with_reducible apply hU | ((with_reducible apply SqT.of); with_reducible assumption) | ((with_reducible apply same_seqT); with_reducible assumption) | ((with_reducible apply kp_seqT); with_reducible assumption) | ((with_reducible apply Dw.same); with_reducible assumption))); done)); exact rfl)
      | ((with_reducible apply R.ixL); (focus ((repeat' (first | with_reducible assumption | ((with_reducible apply SqL.of); with_reducible assumption) | ((with_reducible apply Same.seq); with_reducible assumption) | ((with_reducible apply Kp.seqL); with_reducible assumption) | ((with_reducible apply fresh_ne); with_reducible assumption) | ((with_reducible apply Dw.same); with_reducible assumption))); done)); exact rfl)
      | with_reducible assumption
      | with_reducible apply Bd.mulW
      | with_reducible apply Bd.mul
      | with_reducible apply Bd.add
      | with_reducible apply Bd.sub
      | ((with_reducible apply Bd.l8); exact eq_true (by decide))
      | ((with_reducible apply Bd.lit); exact eq_true (by decide))
      | with_reducible apply Bd.neg
      | with_reducible apply Bd.div
      | with_reducible apply Bd.abs
      | with_reducible apply Bd.mod
      | with_reducible apply Bd.fdiv
      | ((with_reducible apply Bd.om); omega)
      | ((with_reducible apply R.isLe); first | decide | omega)
      | with_reducible apply R.un
      | with_reducible apply R.u1
      | with_reducible apply R.tup
      | with_reducible apply R.lst
      | with_reducible apply R.call
      | with_reducible apply R.callB
      | with_reducible apply R.gtup
      | with_reducible apply R.gnil
      | with_reducible apply R.seq
      | with_reducible apply R.asg
      | with_reducible apply R.ret
      | with_reducible apply R.brk
      | with_reducible apply R.cont
      | with_reducible apply R.next
      | with_reducible apply R.drop
      | with_reducible apply R.par
      | with_reducible apply R.par2
      | with_reducible apply R.ifs
      | with_reducible apply R.tif
      | with_reducible apply R.test
      | with_reducible apply R.tb'
      | with_reducible apply R.isbl
      | with_reducible apply R.cmp
      | with_reducible apply R.t2i
      | with_reducible apply R.intp
      | with_reducible apply R.and
      | with_reducible apply R.or
      | with_reducible apply R.not
      | with_reducible apply R.andV
      | with_reducible apply R.orV
      | with_reducible apply R.notV
      | with_reducible apply R.chain
      | with_reducible apply R.tupL
      | with_reducible apply R.lstL
      | with_reducible apply R.cat
      | with_reducible apply R.absI
      | with_reducible apply R.intI
      | with_reducible apply R.intB
      | with_reducible apply R.eqS
      | with_reducible apply R.eqBl
      | with_reducible apply R.neBl
      | with_reducible apply R.sl
      | with_reducible apply R.noPart
      | with_reducible apply R.part
      | with_reducible apply R.isInt
      | with_reducible apply R.slL
      | with_reducible apply R.isiT
      | with_reducible apply R.isiLst
      | with_reducible apply R.nwT
      | with_reducible apply R.nwL
      | ((with_reducible apply R.mt); intro HN tn sn nn ht)
      | ((with_reducible apply R.ml); intro HN tn sn nn ht)
      | ((with_reducible apply R.isiTupS); focus ((repeat' (first | with_reducible assumption | with_reducible apply hU | ((with_reducible apply SqT.of); with_reducible assumption) | ((with_reducible apply same_seqT); with_reducible assumption) | ((with_reducible apply kp_seqT); with_reducible assumption) | ((with_reducible apply Dw.same); with_reducible assumption))); done))
      | ((with_reducible apply R.ne4); focus ((repeat' (first | with_reducible assumption | with_reducible apply hU | ((with_reducible apply SqT.of); with_reducible assumption) | ((with_reducible apply same_seqT); with_reducible assumption) | ((with_reducible apply kp_seqT); with_reducible assumption) | ((with_reducible apply Dw.same); with_reducible assumption))); done))
      | ((with_reducible apply R.ne3); focus ((repeat' (first | with_reducible assumption | with_reducible apply hU | ((with_reducible apply SqT.of); with_reducible assumption) | ((with_reducible apply same_seqT); with_reducible assumption) | ((with_reducible apply kp_seqT); with_reducible assumption) | ((with_reducible apply Dw.same); with_reducible assumption))); done))
      | ((with_reducible apply R.ne2); focus ((repeat' (first | with_reducible assumption | with_reducible apply hU | ((with_reducible apply SqT.of); with_reducible assumption) | ((with_reducible apply same_seqT); with_reducible assumption) | ((with_reducible apply kp_seqT); with_reducible assumption) | ((with_reducible apply Dw.same); with_reducible assumption))); done))
      | ((with_reducible apply R.eq4); focus ((repeat' (first | with_reducible assumption | with_reducible apply hU | ((with_reducible apply SqT.of); with_reducible assumption) | ((with_reducible apply same_seqT); with_reducible assumption) | ((with_reducible apply kp_seqT); with_reducible assumption) | ((with_reducible apply Dw.same); with_reducible assumption))); done))
      | ((with_reducible apply R.eq3); focus ((repeat' (first | with_reducible assumption | with_reducible apply hU | ((with_reducible apply SqT.of); with_reducible assumption) | ((with_reducible apply same_seqT); with_reducible assumption) | ((with_reducible apply kp_seqT); with_reducible assumption) | ((with_reducible apply Dw.same); with_reducible assumption))); done))
      | ((with_reducible apply R.eq2); focus ((repeat' (first | with_reducible assumption | with_reducible apply hU | ((with_reducible apply SqT.of); with_reducible assumption) | ((with_reducible apply same_seqT); with_reducible assumption) | ((with_reducible apply kp_seqT); with_reducible assumption) | ((with_reducible apply Dw.same); with_reducible assumption))); done))
      | with_reducible apply uLawNext
      | with_reducible apply uLawWide
      | ((with_reducible apply R.nw); intro HN tn sn ht)
      | with_reducible apply iteT
      | with_reducible apply iteF
      | with_reducible apply R.notT
      | with_reducible apply R.notF
      | ((with_reducible apply SqT.of); with_reducible assumption)
      | ((with_reducible apply SqL.of); with_reducible assumption)
      | ((with_reducible apply same_seqT); with_reducible assumption)
      | ((with_reducible apply sameB); with_reducible assumption)
      | ((with_reducible apply same_at); with_reducible assumption)
      | ((with_reducible apply kp_seqT); with_reducible assumption)
      | ((with_reducible apply Same.seq); with_reducible assumption)
      | ((with_reducible apply Kp.seqL); with_reducible assumption)
      | ((with_reducible apply fresh_ne); with_reducible assumption)
      | ((with_reducible apply Dw.same); with_reducible assumption)
      | ((with_reducible apply R.isEq); exact eq_true (by first | decide | omega))
      | ((with_reducible apply R.isLt); first | decide | omega)
      | ((with_reducible apply R.isLtI); first | decide | omega)
      | ((with_reducible apply R.isLeI); first | decide | omega)
      | ((with_reducible apply R.cdiv); exact rfl)
      | ((with_reducible apply R.cpow); exact rfl)
      | with_reducible apply R.cdivX
      | ((with_reducible apply R.isNe); omega)
      | with_reducible apply hU
      | ((with_reducible apply wayNF); first | exact rfl | exact ⟨rfl, rfl⟩ | exact ⟨rfl, rfl, rfl⟩ | exact ⟨rfl, rfl, rfl, rfl⟩)
      | with_reducible apply R.forE
      | with_reducible apply R.rng1
      | with_reducible apply R.rng2
      | with_reducible apply R.rg1
      | with_reducible apply R.rg2
      | with_reducible apply R.lcE
      | with_reducible apply R.itup
      | with_reducible apply R.ilst
      )
    intro r3 H4 r3a r3b d4 k4
    repeat' (first
      | with_reducible apply R.var
      | ((with_reducible apply R.isEq); exact rfl)
      | with_reducible apply R.op
      | with_reducible apply R.i2
      | with_reducible apply R.i0
      | with_reducible apply R.con
      | with_reducible apply R.cons
      | with_reducible apply R.nil
      | with_reducible apply R.gcons
      | with_reducible apply R.gname
      | ((with_reducible apply R.ixT); (focus ((repeat' (first | with_reducible assumption | with_reducible apply hU | ((with_reducible apply SqT.of); with_reducible assumption) | ((with_reducible apply same_seqT); with_reducible assumption) | ((with_reducible apply kp_seqT); with_reducible assumption) | ((with_reducible apply Dw.same); with_reducible assumption))); done)); exact rfl)
      | ((with_reducible apply R.ixL); (focus ((repeat' (first | with_reducible assumption | ((with_reducible apply SqL.of); with_reducible assumption) | ((with_reducible apply Same.seq); with_reducible assumption) | ((with_reducible apply Kp.seqL); with_reducible assumption) | ((with_reducible apply fresh_ne); with_reducible assumption) | ((with_reducible apply Dw.same); with_reducible assumption))); done)); exact rfl)
      | with_reducible assumption
      | with_reducible apply Bd.mulW
      | with_reducible apply Bd.mul
      | with_reducible apply Bd.add
      | with_reducible apply Bd.sub
      | ((with_reducible apply Bd.l8); exact eq_true (by decide))
      | ((with_reducible apply Bd.lit); exact eq_true (by decide))
      | with_reducible apply Bd.neg
      | with_reducible apply Bd.div
      | with_reducible apply Bd.abs
      | with_reducible apply Bd.mod
      | with_reducible apply Bd.fdiv
      | ((with_reducible apply Bd.om); omega)
      | ((with_reducible apply R.isLe); first | decide | omega)
      | with_reducible apply R.un
      | with_reducible apply R.u1
      | with_reducible apply R.tup
      | with_reducible apply R.lst
      | with_reducible apply R.call
      | with_reducible apply R.callB
      | with_reducible apply R.gtup
      | with_reducible apply R.gnil
      | with_reducible apply R.seq
      | with_reducible apply R.asg
      | with_reducible apply R.ret
      | with_reducible apply R.brk
      | with_reducible apply R.cont
      | with_reducible apply R.next
      | with_reducible apply R.drop
      | with_reducible apply R.par
      | with_reducible apply R.par2
      | with_reducible apply R.ifs
      | with_reducible apply R.tif
      | with_reducible apply R.test
      | with_reducible apply R.tb'
      | with_reducible apply R.isbl
      | with_reducible apply R.cmp
      | with_reducible apply R.t2i
      | with_reducible apply R.intp
      | with_reducible apply R.and
      | with_reducible apply R.or
      | with_reducible apply R.not
      | with_reducible apply R.andV
      | with_reducible apply R.orV
      | with_reducible apply R.notV
      | with_reducible apply R.chain
      | with_reducible apply R.tupL
      | with_reducible apply R.lstL
      | with_reducible apply R.cat
      | with_reducible apply R.absI
      | with_reducible apply R.intI
      | with_reducible apply R.intB
      | with_reducible apply R.eqS
      | with_reducible apply R.eqBl
      | with_reducible apply R.neBl
      | with_reducible apply R.sl
      | with_reducible apply R.noPart
      | with_reducible apply R.part
      | with_reducible apply R.isInt
      | with_reducible apply R.slL
      | with_reducible apply R.isiT
      | with_reducible apply R.isiLst
      | with_reducible apply R.nwT
      | with_reducible apply R.nwL
      | ((with_reducible apply R.mt); intro HN tn sn nn ht)
      | ((with_reducible apply R.ml); intro HN tn sn nn ht)
      | ((with_reducible apply R.isiTupS); focus ((repeat' (first | with_reducible assumption | with_reducible apply hU | ((with_reducible apply SqT.of); with_reducible assumption) | ((with_reducible apply same_seqT); with_reducible assumption) | ((with_reducible apply kp_seqT); with_reducible assumption) | ((with_reducible apply Dw.same); with_reducible assumption))); done))
      | ((with_reducible apply R.ne4); focus ((repeat' (first | with_reducible assumption | with_reducible apply hU | ((with_reducible apply SqT.of); with_reducible assumption) | ((with_reducible apply same_seqT); with_reducible assumption) | ((with_reducible apply kp_seqT); with_reducible assumption) | ((with_reducible apply Dw.same); with_reducible assumption))); done))
      | ((with_reducible apply R.ne3); focus ((repeat' (first | with_reducible assumption | with_reducible apply hU | ((with_reducible apply SqT.of); with_reducible assumption) | ((with_reducible apply same_seqT); with_reducible assumption) | ((with_reducible apply kp_seqT); with_reducible assumption) | ((with_reducible apply Dw.same); with_reducible assumption))); done))
      | ((with_reducible apply R.ne2); focus ((repeat' (first | with_reducible assumption | with_reducible apply hU | ((with_reducible apply SqT.of); with_reducible assumption) | ((with_reducible apply same_seqT); with_reducible assumption) | ((with_reducible apply kp_seqT); with_reducible assumption) | ((with_reducible apply Dw.same); with_reducible assumption))); done))
      | ((with_reducible apply R.eq4); focus ((repeat' (first | with_reducible assumption | with_reducible apply hU | ((with_reducible apply SqT.of); with_reducible assumption) | ((with_reducible apply same_seqT); with_reducible assumption) | ((with_reducible apply kp_seqT); with_reducible assumption) | ((with_reducible apply Dw.same); with_reducible assumption))); done))
      | ((with_reducible apply R.eq3); focus ((repeat' (first | with_reducible assumption | with_reducible apply hU | ((with_reducible apply SqT.of); with_reducible assumption) | ((with_reducible apply same_seqT); with_reducible assumption) | ((with_reducible apply kp_seqT); with_reducible assumption) | ((with_reducible apply Dw.same); with_reducible assumption))); done))
      | ((with_reducible apply R.eq2); focus ((repeat' (first | with_reducible assumption | with_reducible apply hU | ((with_reducible apply SqT.of); with_reducible assumption) | ((with_reducible apply same_seqT); with_reducible assumption) | ((with_reducible apply kp_seqT); with_reducible assumption) | ((with_reducible apply Dw.same); with_reducible assumption))); done))
      | with_reducible apply uLawNext
      | with_reducible apply uLawWide
      | ((with_reducible apply R.nw); intro HN tn sn ht)
      | with_reducible apply iteT
      | with_reducible apply iteF
      | with_reducible apply R.notT
      | with_reducible apply R.notF
      | ((with_reducible apply SqT.of); with_reducible assumption)
      | ((with_reducible apply SqL.of); with_reducible assumption)
      | ((with_reducible apply same_seqT); with_reducible assumption)
      | ((with_reducible apply sameB); with_reducible assumption)
      | ((with_reducible apply same_at); with_reducible assumption)
      | ((with_reducible apply kp_seqT); with_reducible assumption)
      | ((with_reducible apply Same.seq); with_reducible assumption)
      | ((with_reducible apply Kp.seqL); with_reducible assumption)
      | ((with_reducible apply fresh_ne); with_reducible assumption)
      | ((with_reducible apply Dw.same); with_reducible assumption)
      | ((with_reducible apply R.isEq); exact eq_true (by first | decide | omega))
      | ((with_reducible apply R.isLt); first | decide | omega)
      | ((with_reducible apply R.isLtI); first | decide | omega)
      | ((with_reducible apply R.isLeI); first | decide | omega)
      | ((with_reducible apply R.cdiv); exact rfl)
      | ((with_reducible apply R.cpow); exact rfl)
      | with_reducible apply R.cdivX
      | ((with_reducible apply R.isNe); omega)
      | with_reducible apply hU
      | ((with_reducible apply wayNF); first | exact rfl | exact ⟨rfl, rfl⟩ | exact ⟨rfl, rfl, rfl⟩ | exact ⟨rfl, rfl, rfl, rfl⟩)
      | with_reducible apply R.forE
      | with_reducible apply R.rng1
      | with_reducible apply R.rng2
      | with_reducible apply R.rg1
      | with_reducible apply R.rg2
      | with_reducible apply R.lcE
      | with_reducible apply R.itup
      | with_reducible apply R.ilst
      )
    obtain ⟨d, hd, hd0, hd1⟩ : ∃ d : Int, d = dv + r3 ∧ 0 ≤ d ∧ d ≤ 3001 := ⟨_, rfl, by omega, by omega⟩
    rw [← hd]
    intro r4 H5 r4a r4b d5 k5
    repeat' (first
      | with_reducible apply R.var
      | ((with_reducible apply R.isEq); exact rfl)
      | with_reducible apply R.op
      | with_reducible apply R.i2
      | with_reducible apply R.i0
      | with_reducible apply R.con
      | with_reducible apply R.cons
      | with_reducible apply R.nil
      | with_reducible apply R.gcons
      | with_reducible apply R.gname
      | ((with_reducible apply R.ixT); (focus ((repeat' (first | with_reducible assumption | with_reducible apply hU | ((with_reducible apply SqT.of); with_reducible assumption) | ((with_reducible apply same_seqT); with_reducible assumption) | ((with_reducible apply kp_seqT); with_reducible assumption) | ((with_reducible apply Dw.same); with_reducible assumption))); done)); exact rfl)
      | ((with_reducible apply R.ixL); (focus ((repeat' (first | with_reducible assumption | ((with_reducible apply SqL.of); with_reducible assumption) | ((with_reducible apply Same.seq); with_reducible assumption) | ((with_reducible apply Kp.seqL); with_reducible assumption) | ((with_reducible apply fresh_ne); with_reducible assumption) | ((with_reducible apply Dw.same); with_reducible assumption))); done)); exact rfl)
      | with_reducible assumption
      | with_reducible apply Bd.mulW
      | with_reducible apply Bd.mul
      | with_reducible apply Bd.add
      | with_reducible apply Bd.sub
      | ((with_reducible apply Bd.l8); exact eq_true (by decide))
      | ((with_reducible apply Bd.lit); exact eq_true (by decide))
      | with_reducible apply Bd.neg
      | with_reducible apply Bd.div
      | with_reducible apply Bd.abs
      | with_reducible apply Bd.mod
      | with_reducible apply Bd.fdiv
      | ((with_reducible apply Bd.om); omega)
      | ((with_reducible apply R.isLe); first | decide | omega)
      | with_reducible apply R.un
      | with_reducible apply R.u1
      | with_reducible apply R.tup
      | with_reducible apply R.lst
      | with_reducible apply R.call
      | with_reducible apply R.callB
      | with_reducible apply R.gtup
      | with_reducible apply R.gnil
      | with_reducible apply R.seq
      | with_reducible apply R.asg
      | with_reducible apply R.ret
      | with_reducible apply R.brk
      | with_reducible apply R.cont
      | with_reducible apply R.next
      | with_reducible apply R.drop
      | with_reducible apply R.par
      | with_reducible apply R.par2
      | with_reducible apply R.ifs
      | with_reducible apply R.tif
      | with_reducible apply R.test
      | with_reducible apply R.tb'
      | with_reducible apply R.isbl
      | with_reducible apply R.cmp
      | with_reducible apply R.t2i
      | with_reducible apply R.intp
      | with_reducible apply R.and
      | with_reducible apply R.or
      | with_reducible apply R.not
      | with_reducible apply R.andV
      | with_reducible apply R.orV
      | with_reducible apply R.notV
      | with_reducible apply R.chain
      | with_reducible apply R.tupL
      | with_reducible apply R.lstL
      | with_reducible apply R.cat
      | with_reducible apply R.absI
      | with_reducible apply R.intI
      | with_reducible apply R.intB
      | with_reducible apply R.eqS
      | with_reducible apply R.eqBl
      | with_reducible apply R.neBl
      | with_reducible apply R.sl
      | with_reducible apply R.noPart
      | with_reducible apply R.part
      | with_reducible apply R.isInt
      | with_reducible apply R.slL
      | with_reducible apply R.isiT
      | with_reducible apply R.isiLst
      | with_reducible apply R.nwT
      | with_reducible apply R.nwL
      | ((with_reducible apply R.mt); intro HN tn sn nn ht)
      | ((with_reducible apply R.ml); intro HN tn sn nn ht)
      | ((with_reducible apply R.isiTupS); focus ((repeat' (first | with_reducible assumption | with_reducible apply hU | ((with_reducible apply SqT.of); with_reducible assumption) | ((with_reducible apply same_seqT); with_reducible assumption) | ((with_reducible apply kp_seqT); with_reducible assumption) | ((with_reducible apply Dw.same); with_reducible assumption))); done))
      | ((with_reducible apply R.ne4); focus ((repeat' (first | with_reducible assumption | with_reducible apply hU | ((with_reducible apply SqT.of); with_reducible assumption) | ((with_reducible apply same_seqT); with_reducible assumption) | ((with_reducible apply kp_seqT); with_reducible assumption) | ((with_reducible apply Dw.same); with_reducible assumption))); done))
      | ((with_reducible apply R.ne3); focus ((repeat' (first | with_reducible assumption | with_reducible apply hU | ((with_reducible apply SqT.of); with_reducible assumption) | ((with_reducible apply same_seqT); with_reducible assumption) | ((with_reducible apply kp_seqT); with_reducible assumption) | ((with_reducible apply Dw.same); with_reducible assumption))); done))
      | ((with_reducible apply R.ne2); focus ((repeat' (first | with_reducible assumption | with_reducible apply hU | ((with_reducible apply SqT.of); with_reducible assumption) | ((with_reducible apply same_seqT); with_reducible assumption) | ((with_reducible apply kp_seqT); with_reducible assumption) | ((with_reducible apply Dw.same); with_reducible assumption))); done))
      | ((with_reducible apply R.eq4); focus ((repeat' (first | with_reducible assumption | with_reducible apply hU | ((with_reducible apply SqT.of); with_reducible assumption) | ((with_reducible apply same_seqT); with_reducible assumption) | ((with_reducible apply kp_seqT); with_reducible assumption) | ((with_reducible apply Dw.same); with_reducible assumption))); done))
      | ((with_reducible apply R.eq3); focus ((repeat' (first | with_reducible assumption | with_reducible apply hU | ((with_reducible apply SqT.of); with_reducible assumption) | ((with_reducible apply same_seqT); with_reducible assumption) | ((with_reducible apply kp_seqT); with_reducible assumption) | ((with_reducible apply Dw.same); with_reducible assumption))); done))
      | ((with_reducible apply R.eq2); focus ((repeat' (first | with_reducible assumption | with_reducible apply hU | ((with_reducible apply SqT.of); with_reducible assumption) | ((with_reducible apply same_seqT); with_reducible assumption) | ((with_reducible apply kp_seqT); with_reducible assumption) | ((with_reducible apply Dw.same); with_reducible assumption))); done))
      | with_reducible apply uLawNext
      | with_reducible apply uLawWide
      | ((with_reducible apply R.nw); intro HN tn sn ht)
      | with_reducible apply iteT
      | with_reducible apply iteF
      | with_reducible apply R.notT
      | with_reducible apply R.notF
      | ((with_reducible apply SqT.of); with_reducible assumption)
      | ((with_reducible apply SqL.of); with_reducible assumption)
      | ((with_reducible apply same_seqT); with_reducible assumption)
      | ((with_reducible apply sameB); with_reducible assumption)
      | ((with_reducible apply same_at); with_reducible assumption)
      | ((with_reducible apply kp_seqT); with_reducible assumption)
      | ((with_reducible apply Same.seq); with_reducible assumption)
      | ((with_reducible apply Kp.seqL); with_reducible assumption)
      | ((with_reducible apply fresh_ne); with_reducible assumption)
      | ((with_reducible apply Dw.same); with_reducible assumption)
      | ((with_reducible apply R.isEq); exact eq_true (by first | decide | omega))
      | ((with_reducible apply R.isLt); first | decide | omega)
      | ((with_reducible apply R.isLtI); first | decide | omega)
      | ((with_reducible apply R.isLeI); first | decide | omega)
      | ((with_reducible apply R.cdiv); exact rfl)
      | ((with_reducible apply R.cpow); exact rfl)
      | with_reducible apply R.cdivX
      | ((with_reducible apply R.isNe); omega)
      | with_reducible apply hU
      | ((with_reducible apply wayNF); first | exact rfl | exact ⟨rfl, rfl⟩ | exact ⟨rfl, rfl, rfl⟩ | exact ⟨rfl, rfl, rfl, rfl⟩)
      | with_reducible apply R.forE
      | with_reducible apply R.rng1
      | with_reducible apply R.rng2
      | with_reducible apply R.rg1
      | with_reducible apply R.rg2
      | with_reducible apply R.lcE
      | with_reducible apply R.itup
      | with_reducible apply R.ilst
      )
    intro r5 H6 r5a r5b d6 k6
    replace r5b : r5 < 1000000 := r5b
    repeat' (first
      | with_reducible apply R.var
      | ((with_reducible apply R.isEq); exact rfl)
      | with_reducible apply R.op
      | with_reducible apply R.i2
      | with_reducible apply R.i0
      | with_reducible apply R.con
      | with_reducible apply R.cons
      | with_reducible apply R.nil
      | with_reducible apply R.gcons
      | with_reducible apply R.gname
      | ((with_reducible apply R.ixT); (focus ((repeat' (first | with_reducible assumption | with_reducible apply hU | ((with_reducible apply SqT.of); with_reducible assumption) | ((with_reducible apply same_seqT); with_reducible assumption) | ((with_reducible apply kp_seqT); with_reducible assumption) | ((with_reducible apply Dw.same); with_reducible assumption))); done)); exact rfl)
      | ((with_reducible apply R.ixL); (focus ((repeat' (first | with_reducible assumption | ((with_reducible apply SqL.of); with_reducible assumption) | ((with_reducible apply Same.seq); with_reducible assumption) | ((with_reducible apply Kp.seqL); with_reducible assumption) | ((with_reducible apply fresh_ne); with_reducible assumption) | ((with_reducible apply Dw.same); with_reducible assumption))); done)); exact rfl)
      | with_reducible assumption
      | with_reducible apply Bd.mulW
      | with_reducible apply Bd.mul
      | with_reducible apply Bd.add
      | with_reducible apply Bd.sub
      | ((with_reducible apply Bd.l8); exact eq_true (by decide))
      | ((with_reducible apply Bd.lit); exact eq_true (by decide))
      | with_reducible apply Bd.neg
      | with_reducible apply Bd.div
      | with_reducible apply Bd.abs
      | with_reducible apply Bd.mod
      | with_reducible apply Bd.fdiv
      | ((with_reducible apply Bd.om); omega)
      | ((with_reducible apply R.isLe); first | decide | omega)
      | with_reducible apply R.un
      | with_reducible apply R.u1
      | with_reducible apply R.tup
      | with_reducible apply R.lst
      | with_reducible apply R.call
      | with_reducible apply R.callB
      | with_reducible apply R.gtup
      | with_reducible apply R.gnil
      | with_reducible apply R.seq
      | with_reducible apply R.asg
      | with_reducible apply R.ret
      | with_reducible apply R.brk
      | with_reducible apply R.cont
      | with_reducible apply R.next
      | with_reducible apply R.drop
      | with_reducible apply R.par
      | with_reducible apply R.par2
      | with_reducible apply R.ifs
      | with_reducible apply R.tif
      | with_reducible apply R.test
      | with_reducible apply R.tb'
      | with_reducible apply R.isbl
      | with_reducible apply R.cmp
      | with_reducible apply R.t2i
      | with_reducible apply R.intp
      | with_reducible apply R.and
      | with_reducible apply R.or
      | with_reducible apply R.not
      | with_reducible apply R.andV
      | with_reducible apply R.orV
      | with_reducible apply R.notV
      | with_reducible apply R.chain
      | with_reducible apply R.tupL
      | with_reducible apply R.lstL
      | with_reducible apply R.cat
      | with_reducible apply R.absI
      | with_reducible apply R.intI
      | with_reducible apply R.intB
      | with_reducible apply R.eqS
      | with_reducible apply R.eqBl
      | with_reducible apply R.neBl
      | with_reducible apply R.sl
      | with_reducible apply R.noPart
      | with_reducible apply R.part
      | with_reducible apply R.isInt
      | with_reducible apply R.slL
      | with_reducible apply R.isiT
      | with_reducible apply R.isiLst
      | with_reducible apply R.nwT
      | with_reducible apply R.nwL
      | ((with_reducible apply R.mt); intro HN tn sn nn ht)
      | ((with_reducible apply R.ml); intro HN tn sn nn ht)
      | ((with_reducible apply R.isiTupS); focus ((repeat' (first | with_reducible assumption | with_reducible apply hU | ((with_reducible apply SqT.of); with_reducible assumption) | ((with_reducible apply same_seqT); with_reducible assumption) | ((with_reducible apply kp_seqT); with_reducible assumption) | ((with_reducible apply Dw.same); with_reducible assumption))); done))
      | ((with_reducible apply R.ne4); focus ((repeat' (first | with_reducible assumption | with_reducible apply hU | ((with_reducible apply SqT.of); with_reducible assumption) | ((with_reducible apply same_seqT); with_reducible assumption) | ((with_reducible apply kp_seqT); with_reducible assumption) | ((with_reducible apply Dw.same); with_reducible assumption))); done))
      | ((with_reducible apply R.ne3); focus ((repeat' (first | with_reducible assumption | with_reducible apply hU | ((with_reducible apply SqT.of); with_reducible assumption) | ((with_reducible apply same_seqT); with_reducible assumption) | ((with_reducible apply kp_seqT); with_reducible assumption) | ((with_reducible apply Dw.same); with_reducible assumption))); done))
      | ((with_reducible apply R.ne2); focus ((repeat' (first | with_reducible assumption | with_reducible apply hU | ((with_reducible apply SqT.of); with_reducible assumption) | ((with_reducible apply same_seqT); with_reducible assumption) | ((with_reducible apply kp_seqT); with_reducible assumption) | ((with_reducible apply Dw.same); with_reducible assumption))); done))
      | ((with_reducible apply R.eq4); focus ((repeat' (first | with_reducible assumption | with_reducible apply hU | ((with_reducible apply SqT.of); with_reducible assumption) | ((with_reducible apply same_seqT); with_reducible assumption) | ((with_reducible apply kp_seqT); with_reducible assumption) | ((with_reducible apply Dw.same); with_reducible assumption))); done))
      | ((with_reducible apply R.eq3); focus ((repeat' (first | with_reducible assumption | with_reducible apply hU | ((with_reducible apply SqT.of); with_reducible assumption) | ((with_reducible apply same_seqT); with_reducible assumption) | ((with_reducible apply kp_seqT); with_reducible assumption) | ((with_reducible apply Dw.same); with_reducible assumption))); done))
      | ((with_reducible apply R.eq2); focus ((repeat' (first | with_reducible assumption | with_reducible apply hU | ((with_reducible apply SqT.of); with_reducible assumption) | ((with_reducible apply same_seqT); with_reducible assumption) | ((with_reducible apply kp_seqT); with_reducible assumption) | ((with_reducible apply Dw.same); with_reducible assumption))); done))
      | with_reducible apply uLawNext
      | with_reducible apply uLawWide
      | ((with_reducible apply R.nw); intro HN tn sn ht)
      | with_reducible apply iteT
      | with_reducible apply iteF
      | with_reducible apply R.notT
      | with_reducible apply R.notF
      | ((with_reducible apply SqT.of); with_reducible assumption)
      | ((with_reducible apply SqL.of); with_reducible assumption)
      | ((with_reducible apply same_seqT); with_reducible assumption)
      | ((with_reducible apply sameB); with_reducible assumption)
      | ((with_reducible apply same_at); with_reducible assumption)
      | ((with_reducible apply kp_seqT); with_reducible assumption)
      | ((with_reducible apply Same.seq); with_reducible assumption)
      | ((with_reducible apply Kp.seqL); with_reducible assumption)
      | ((with_reducible apply fresh_ne); with_reducible assumption)
      | ((with_reducible apply Dw.same); with_reducible assumption)
      | ((with_reducible apply R.isEq); exact eq_true (by first | decide | omega))
      | ((with_reducible apply R.isLt); first | decide | omega)
      | ((with_reducible apply R.isLtI); first | decide | omega)
      | ((with_reducible apply R.isLeI); first | decide | omega)
      | ((with_reducible apply R.cdiv); exact rfl)
      | ((with_reducible apply R.cpow); exact rfl)
      | with_reducible apply R.cdivX
      | ((with_reducible apply R.isNe); omega)
      | with_reducible apply hU
      | ((with_reducible apply wayNF); first | exact rfl | exact ⟨rfl, rfl⟩ | exact ⟨rfl, rfl, rfl⟩ | exact ⟨rfl, rfl, rfl, rfl⟩)
      | with_reducible apply R.forE
      | with_reducible apply R.rng1
      | with_reducible apply R.rng2
      | with_reducible apply R.rg1
      | with_reducible apply R.rg2
      | with_reducible apply R.lcE
      | with_reducible apply R.itup
      | with_reducible apply R.ilst
      )
    intro r6 H7 r6a r6b d7 k7
    repeat' (first
      | with_reducible apply R.var
      | ((with_reducible apply R.isEq); exact rfl)
      | with_reducible apply R.op
      | with_reducible apply R.i2
      | with_reducible apply R.i0
      | with_reducible apply R.con
      | with_reducible apply R.cons
      | with_reducible apply R.nil
      | with_reducible apply R.gcons
      | with_reducible apply R.gname
      | ((with_reducible apply R.ixT); (focus ((repeat' (first | with_reducible assumption | with_reducible apply hU | ((with_reducible apply SqT.of); with_reducible assumption) | ((with_reducible apply same_seqT); with_reducible assumption) | ((with_reducible apply kp_seqT); with_reducible assumption) | ((with_reducible apply Dw.same); with_reducible assumption))); done)); exact rfl)
      | ((with_reducible apply R.ixL); (focus ((repeat' (first | with_reducible assumption | ((with_reducible apply SqL.of); with_reducible assumption) | ((with_reducible apply Same.seq); with_reducible assumption) | ((with_reducible apply Kp.seqL); with_reducible assumption) | ((with_reducible apply fresh_ne); with_reducible assumption) | ((with_reducible apply Dw.same); with_reducible assumption))); done)); exact rfl)
      | with_reducible assumption
      | with_reducible apply Bd.mulW
      | with_reducible apply Bd.mul
      | with_reducible apply Bd.add
      | with_reducible apply Bd.sub
      | ((with_reducible apply Bd.l8); exact eq_true (by decide))
      | ((with_reducible apply Bd.lit); exact eq_true (by decide))
      | with_reducible apply Bd.neg
      | with_reducible apply Bd.div
      | with_reducible apply Bd.abs
      | with_reducible apply Bd.mod
      | with_reducible apply Bd.fdiv
      | ((with_reducible apply Bd.om); omega)
      | ((with_reducible apply R.isLe); first | decide | omega)
      | with_reducible apply R.un
      | with_reducible apply R.u1
      | with_reducible apply R.tup
      | with_reducible apply R.lst
      | with_reducible apply R.call
      | with_reducible apply R.callB
      | with_reducible apply R.gtup
      | with_reducible apply R.gnil
      | with_reducible apply R.seq
      | with_reducible apply R.asg
      | with_reducible apply R.ret
      | with_reducible apply R.brk
      | with_reducible apply R.cont
      | with_reducible apply R.next
      | with_reducible apply R.drop
      | with_reducible apply R.par
      | with_reducible apply R.par2
      | with_reducible apply R.ifs
      | with_reducible apply R.tif
      | with_reducible apply R.test
      | with_reducible apply R.tb'
      | with_reducible apply R.isbl
      | with_reducible apply R.cmp
      | with_reducible apply R.t2i
      | with_reducible apply R.intp
      | with_reducible apply R.and
      | with_reducible apply R.or
      | with_reducible apply R.not
      | with_reducible apply R.andV
      | with_reducible apply R.orV
      | with_reducible apply R.notV
      | with_reducible apply R.chain
      | with_reducible apply R.tupL
      | with_reducible apply R.lstL
      | with_reducible apply R.cat
      | with_reducible apply R.absI
      | with_reducible apply R.intI
      | with_reducible apply R.intB
      | with_reducible apply R.eqS
      | with_reducible apply R.eqBl
      | with_reducible apply R.neBl
      | with_reducible apply R.sl
      | with_reducible apply R.noPart
      | with_reducible apply R.part
      | with_reducible apply R.isInt
      | with_reducible apply R.slL
      | with_reducible apply R.isiT
      | with_reducible apply R.isiLst
      | with_reducible apply R.nwT
      | with_reducible apply R.nwL
      | ((with_reducible apply R.mt); intro HN tn sn nn ht)
      | ((with_reducible apply R.ml); intro HN tn sn nn ht)
      | ((with_reducible apply R.isiTupS); focus ((repeat' (first | with_reducible assumption | with_reducible apply hU | ((with_reducible apply SqT.of); with_reducible assumption) | ((with_reducible apply same_seqT); with_reducible assumption) | ((with_reducible apply kp_seqT); with_reducible assumption) | ((with_reducible apply Dw.same); with_reducible assumption))); done))
      | ((with_reducible apply R.ne4); focus ((repeat' (first | with_reducible assumption | with_reducible apply hU | ((with_reducible apply SqT.of); with_reducible assumption) | ((with_reducible apply same_seqT); with_reducible assumption) | ((with_reducible apply kp_seqT); with_reducible assumption) | ((with_reducible apply Dw.same); with_reducible assumption))); done))
      | ((with_reducible apply R.ne3); focus ((repeat' (first | with_reducible assumption | with_reducible apply hU | ((with_reducible apply SqT.of); with_reducible assumption) | ((with_reducible apply same_seqT); with_reducible assumption) | ((with_reducible apply kp_seqT); with_reducible assumption) | ((with_reducible apply Dw.same); with_reducible assumption))); done))
      | ((with_reducible apply R.ne2); focus ((repeat' (first | with_reducible assumption | with_reducible apply hU | ((with_reducible apply SqT.of); with_reducible assumption) | ((with_reducible apply same_seqT); with_reducible assumption) | ((with_reducible apply kp_seqT); with_reducible assumption) | ((with_reducible apply Dw.same); with_reducible assumption))); done))
      | ((with_reducible apply R.eq4); focus ((repeat' (first | with_reducible assumption | with_reducible apply hU | ((with_reducible apply SqT.of); with_reducible assumption) | ((with_reducible apply same_seqT); with_reducible assumption) | ((with_reducible apply kp_seqT); with_reducible assumption) | ((with_reducible apply Dw.same); with_reducible assumption))); done))
      | ((with_reducible apply R.eq3); focus ((repeat' (first | with_reducible assumption | with_reducible apply hU | ((with_reducible apply SqT.of); with_reducible assumption) | ((with_reducible apply same_seqT); with_reducible assumption) | ((with_reducible apply kp_seqT); with_reducible assumption) | ((with_reducible apply Dw.same); with_reducible assumption))); done))
      | ((with_reducible apply R.eq2); focus ((repeat' (first | with_reducible assumption | with_reducible apply hU | ((with_reducible apply SqT.of); with_reducible assumption) | ((with_reducible apply same_seqT); with_reducible assumption) | ((with_reducible apply kp_seqT); with_reducible assumption) | ((with_reducible apply Dw.same); with_reducible assumption))); done))
      | with_reducible apply uLawNext
      | with_reducible apply uLawWide
      | ((with_reducible apply R.nw); intro HN tn sn ht)
      | with_reducible apply iteT
      | with_reducible apply iteF
      | with_reducible apply R.notT
      | with_reducible apply R.notF
      | ((with_reducible apply SqT.of); with_reducible assumption)
      | ((with_reducible apply SqL.of); with_reducible assumption)
      | ((with_reducible apply same_seqT); with_reducible assumption)
      | ((with_reducible apply sameB); with_reducible assumption)
      | ((with_reducible apply same_at); with_reducible assumption)
      | ((with_reducible apply kp_seqT); with_reducible assumption)
      | ((with_reducible apply Same.seq); with_reducible assumption)
      | ((with_reducible apply Kp.seqL); with_reducible assumption)
      | ((with_reducible apply fresh_ne); with_reducible assumption)
      | ((with_reducible apply Dw.same); with_reducible assumption)
      | ((with_reducible apply R.isEq); exact eq_true (by first | decide | omega))
      | ((with_reducible apply R.isLt); first | decide | omega)
      | ((with_reducible apply R.isLtI); first | decide | omega)
      | ((with_reducible apply R.isLeI); first | decide | omega)
      | ((with_reducible apply R.cdiv); exact rfl)
      | ((with_reducible apply R.cpow); exact rfl)
      | with_reducible apply R.cdivX
      | ((with_reducible apply R.isNe); omega)
      | with_reducible apply hU
      | ((with_reducible apply wayNF); first | exact rfl | exact ⟨rfl, rfl⟩ | exact ⟨rfl, rfl, rfl⟩ | exact ⟨rfl, rfl, rfl, rfl⟩)
      | with_reducible apply R.forE
      | with_reducible apply R.rng1
      | with_reducible apply R.rng2
      | with_reducible apply R.rg1
      | with_reducible apply R.rg2
      | with_reducible apply R.lcE
      | with_reducible apply R.itup
      | with_reducible apply R.ilst
      )
    refine .inr ⟨_, rfl, ?_⟩
    obtain ⟨pv, hpv, epv⟩ : ∃ v : Int, v.natAbs ≤ 1000000 ∧ atI [V.int (r4 - 30), V.int (r5 - 500000)] (if decide (r6 = 0) = true then 1 else 0) = some (.int v) := by
      by_cases z : r6 = 0
      · rw [if_pos (decide_eq_true z)]
        exact ⟨_, by omega, rfl⟩
      · rw [if_neg (fun h => z (of_decide_eq_true h))]
        exact ⟨_, by omega, rfl⟩
    refine R.ixL (xs := [V.int (r4 - 30), V.int (r5 - 500000)]) (by (repeat' (first | with_reducible assumption | ((with_reducible apply SqL.of); with_reducible assumption) | ((with_reducible apply Same.seq); with_reducible assumption) | ((with_reducible apply Kp.seqL); with_reducible assumption) | ((with_reducible apply fresh_ne); with_reducible assumption) | ((with_reducible apply Dw.same); with_reducible assumption)))) epv ?_
    repeat' (first
      | with_reducible apply R.var
      | ((with_reducible apply R.isEq); exact rfl)
      | with_reducible apply R.op
      | with_reducible apply R.i2
      | with_reducible apply R.i0
      | with_reducible apply R.con
      | with_reducible apply R.cons
      | with_reducible apply R.nil
      | with_reducible apply R.gcons
      | with_reducible apply R.gname
      | ((with_reducible apply R.ixT); (focus ((repeat' (first | with_reducible assumption | with_reducible apply hU | ((with_reducible apply SqT.of); with_reducible assumption) | ((with_reducible apply same_seqT); with_reducible assumption) | ((with_reducible apply kp_seqT); with_reducible assumption) | ((with_reducible apply Dw.same); with_reducible assumption))); done)); exact rfl)
      | ((with_reducible apply R.ixL); (focus ((repeat' (first | with_reducible assumption | ((with_reducible apply SqL.of); with_reducible assumption) | ((with_reducible apply Same.seq); with_reducible assumption) | ((with_reducible apply Kp.seqL); with_reducible assumption) | ((with_reducible apply fresh_ne); with_reducible assumption) | ((with_reducible apply Dw.same); with_reducible assumption))); done)); exact rfl)
      | with_reducible assumption
      | with_reducible apply Bd.mulW
      | with_reducible apply Bd.mul
      | with_reducible apply Bd.add
      | with_reducible apply Bd.sub
      | ((with_reducible apply Bd.l8); exact eq_true (by decide))
      | ((with_reducible apply Bd.lit); exact eq_true (by decide))
      | with_reducible apply Bd.neg
      | with_reducible apply Bd.div
      | with_reducible apply Bd.abs
      | with_reducible apply Bd.mod
      | with_reducible apply Bd.fdiv
      | ((with_reducible apply Bd.om); omega)
      | ((with_reducible apply R.isLe); first | decide | omega)
      | with_reducible apply R.un
      | with_reducible apply R.u1
      | with_reducible apply R.tup
      | with_reducible apply R.lst
      | with_reducible apply R.call
      | with_reducible apply R.callB
      | with_reducible apply R.gtup
      | with_reducible apply R.gnil
      | with_reducible apply R.seq
      | with_reducible apply R.asg
      | with_reducible apply R.ret
      | with_reducible apply R.brk
      | with_reducible apply R.cont
      | with_reducible apply R.next
      | with_reducible apply R.drop
      | with_reducible apply R.par
      | with_reducible apply R.par2
      | with_reducible apply R.ifs
      | with_reducible apply R.tif
      | with_reducible apply R.test
      | with_reducible apply R.tb'
      | with_reducible apply R.isbl
      | with_reducible apply R.cmp
      | with_reducible apply R.t2i
      | with_reducible apply R.intp
      | with_reducible apply R.and
      | with_reducible apply R.or
      | with_reducible apply R.not
      | with_reducible apply R.andV
      | with_reducible apply R.orV
      | with_reducible apply R.notV
      | with_reducible apply R.chain
      | with_reducible apply R.tupL
      | with_reducible apply R.lstL
      | with_reducible apply R.cat
      | with_reducible apply R.absI
      | with_reducible apply R.intI
      | with_reducible apply R.intB
      | with_reducible apply R.eqS
      | with_reducible apply R.eqBl
      | with_reducible apply R.neBl
      | with_reducible apply R.sl
      | with_reducible apply R.noPart
      | with_reducible apply R.part
      | with_reducible apply R.isInt
      | with_reducible apply R.slL
      | with_reducible apply R.isiT
      | with_reducible apply R.isiLst
      | with_reducible apply R.nwT
      | with_reducible apply R.nwL
      | ((with_reducible apply R.mt); intro HN tn sn nn ht)
      | ((with_reducible apply R.ml); intro HN tn sn nn ht)
      | ((with_reducible apply R.isiTupS); focus ((repeat' (first | with_reducible assumption | with_reducible apply hU | ((with_reducible apply SqT.of); with_reducible assumption) | ((with_reducible apply same_seqT); with_reducible assumption) | ((with_reducible apply kp_seqT); with_reducible assumption) | ((with_reducible apply Dw.same); with_reducible assumption))); done))
      | ((with_reducible apply R.ne4); focus ((repeat' (first | with_reducible assumption | with_reducible apply hU | ((with_reducible apply SqT.of); with_reducible assumption) | ((with_reducible apply same_seqT); with_reducible assumption) | ((with_reducible apply kp_seqT); with_reducible assumption) | ((with_reducible apply Dw.same); with_reducible assumption))); done))
      | ((with_reducible apply R.ne3); focus ((repeat' (first | with_reducible assumption | with_reducible apply hU | ((with_reducible apply SqT.of); with_reducible assumption) | ((with_reducible apply same_seqT); with_reducible assumption) | ((with_reducible apply kp_seqT); with_reducible assumption) | ((with_reducible apply Dw.same); with_reducible assumption))); done))
      | ((with_reducible apply R.ne2); focus ((repeat' (first | with_reducible assumption | with_reducible apply hU | ((with_reducible apply SqT.of); with_reducible assumption) | ((with_reducible apply same_seqT); with_reducible assumption) | ((with_reducible apply kp_seqT); with_reducible assumption) | ((with_reducible apply Dw.same); with_reducible assumption))); done))
      | ((with_reducible apply R.eq4); focus ((repeat' (first | with_reducible assumption | with_reducible apply hU | ((with_reducible apply SqT.of); with_reducible assumption) | ((with_reducible apply same_seqT); with_reducible assumption) | ((with_reducible apply kp_seqT); with_reducible assumption) | ((with_reducible apply Dw.same); with_reducible assumption))); done))
      | ((with_reducible apply R.eq3); focus ((repeat' (first | with_reducible assumption | with_reducible apply hU | ((with_reducible apply SqT.of); with_reducible assumption) | ((with_reducible apply same_seqT); with_reducible assumption) | ((with_reducible apply kp_seqT); with_reducible assumption) | ((with_reducible apply Dw.same); with_reducible assumption))); done))
      | ((with_reducible apply R.eq2); focus ((repeat' (first | with_reducible assumption | with_reducible apply hU | ((with_reducible apply SqT.of); with_reducible assumption) | ((with_reducible apply same_seqT); with_reducible assumption) | ((with_reducible apply kp_seqT); with_reducible assumption) | ((with_reducible apply Dw.same); with_reducible assumption))); done))
      | with_reducible apply uLawNext
      | with_reducible apply uLawWide
      | ((with_reducible apply R.nw); intro HN tn sn ht)
      | with_reducible apply iteT
      | with_reducible apply iteF
      | with_reducible apply R.notT
      | with_reducible apply R.notF
      | ((with_reducible apply SqT.of); with_reducible assumption)
      | ((with_reducible apply SqL.of); with_reducible assumption)
      | ((with_reducible apply same_seqT); with_reducible assumption)
      | ((with_reducible apply sameB); with_reducible assumption)
      | ((with_reducible apply same_at); with_reducible assumption)
      | ((with_reducible apply kp_seqT); with_reducible assumption)
      | ((with_reducible apply Same.seq); with_reducible assumption)
      | ((with_reducible apply Kp.seqL); with_reducible assumption)
      | ((with_reducible apply fresh_ne); with_reducible assumption)
      | ((with_reducible apply Dw.same); with_reducible assumption)
      | ((with_reducible apply R.isEq); exact eq_true (by first | decide | omega))
      | ((with_reducible apply R.isLt); first | decide | omega)
      | ((with_reducible apply R.isLtI); first | decide | omega)
      | ((with_reducible apply R.isLeI); first | decide | omega)
      | ((with_reducible apply R.cdiv); exact rfl)
      | ((with_reducible apply R.cpow); exact rfl)
      | with_reducible apply R.cdivX
      | ((with_reducible apply R.isNe); omega)
      | with_reducible apply hU
      | ((with_reducible apply wayNF); first | exact rfl | exact ⟨rfl, rfl⟩ | exact ⟨rfl, rfl, rfl⟩ | exact ⟨rfl, rfl, rfl, rfl⟩)
      | with_reducible apply R.forE
      | with_reducible apply R.rng1
      | with_reducible apply R.rng2
      | with_reducible apply R.rg1
      | with_reducible apply R.rg2
      | with_reducible apply R.lcE
      | with_reducible apply R.itup
      | with_reducible apply R.ilst
      )
    obtain ⟨rt0, rt1, rt2⟩ := rootI_spec hd0
    refine ⟨d, rfl, hd0, by show d < 1152921504606846976; omega, ?_⟩
    have brt : Bd 60 (rootI d) := by
      have : rootI d ≤ d := by
        by_cases z : rootI d = 0
        · omega
        · have := Int.mul_le_mul_of_nonneg_right (show 1 ≤ rootI d by omega) rt0
          omega
      exact Bd.om (by omega)
    generalize hroot : rootI d = root at *
    repeat' (first
      | with_reducible apply R.var
      | ((with_reducible apply R.isEq); exact rfl)
      | with_reducible apply R.op
      | with_reducible apply R.i2
      | with_reducible apply R.i0
      | with_reducible apply R.con
      | with_reducible apply R.cons
      | with_reducible apply R.nil
      | with_reducible apply R.gcons
      | with_reducible apply R.gname
      | ((with_reducible apply R.ixT); (focus ((repeat' (first | with_reducible assumption | with_reducible apply hU | ((with_reducible apply SqT.of); with_reducible assumption) | ((with_reducible apply same_seqT); with_reducible assumption) | ((with_reducible apply kp_seqT); with_reducible assumption) | ((with_reducible apply Dw.same); with_reducible assumption))); done)); exact rfl)
      | ((with_reducible apply R.ixL); (focus ((repeat' (first | with_reducible assumption | ((with_reducible apply SqL.of); with_reducible assumption) | ((with_reducible apply Same.seq); with_reducible assumption) | ((with_reducible apply Kp.seqL); with_reducible assumption) | ((with_reducible apply fresh_ne); with_reducible assumption) | ((with_reducible apply Dw.same); with_reducible assumption))); done)); exact rfl)
      | with_reducible assumption
      | with_reducible apply Bd.mulW
      | with_reducible apply Bd.mul
      | with_reducible apply Bd.add
      | with_reducible apply Bd.sub
      | ((with_reducible apply Bd.l8); exact eq_true (by decide))
      | ((with_reducible apply Bd.lit); exact eq_true (by decide))
      | with_reducible apply Bd.neg
      | with_reducible apply Bd.div
      | with_reducible apply Bd.abs
      | with_reducible apply Bd.mod
      | with_reducible apply Bd.fdiv
      | ((with_reducible apply Bd.om); omega)
      | ((with_reducible apply R.isLe); first | decide | omega)
      | with_reducible apply R.un
      | with_reducible apply R.u1
      | with_reducible apply R.tup
      | with_reducible apply R.lst
      | with_reducible apply R.call
      | with_reducible apply R.callB
      | with_reducible apply R.gtup
      | with_reducible apply R.gnil
      | with_reducible apply R.seq
      | with_reducible apply R.asg
      | with_reducible apply R.ret
      | with_reducible apply R.brk
      | with_reducible apply R.cont
      | with_reducible apply R.next
      | with_reducible apply R.drop
      | with_reducible apply R.par
      | with_reducible apply R.par2
      | with_reducible apply R.ifs
      | with_reducible apply R.tif
      | with_reducible apply R.test
      | with_reducible apply R.tb'
      | with_reducible apply R.isbl
      | with_reducible apply R.cmp
      | with_reducible apply R.t2i
      | with_reducible apply R.intp
      | with_reducible apply R.and
      | with_reducible apply R.or
      | with_reducible apply R.not
      | with_reducible apply R.andV
      | with_reducible apply R.orV
      | with_reducible apply R.notV
      | with_reducible apply R.chain
      | with_reducible apply R.tupL
      | with_reducible apply R.lstL
      | with_reducible apply R.cat
      | with_reducible apply R.absI
      | with_reducible apply R.intI
      | with_reducible apply R.intB
      | with_reducible apply R.eqS
      | with_reducible apply R.eqBl
      | with_reducible apply R.neBl
      | with_reducible apply R.sl
      | with_reducible apply R.noPart
      | with_reducible apply R.part
      | with_reducible apply R.isInt
      | with_reducible apply R.slL
      | with_reducible apply R.isiT
      | with_reducible apply R.isiLst
      | with_reducible apply R.nwT
      | with_reducible apply R.nwL
      | ((with_reducible apply R.mt); intro HN tn sn nn ht)
      | ((with_reducible apply R.ml); intro HN tn sn nn ht)
      | ((with_reducible apply R.isiTupS); focus ((repeat' (first | with_reducible assumption | with_reducible apply hU | ((with_reducible apply SqT.of); with_reducible assumption) | ((with_reducible apply same_seqT); with_reducible assumption) | ((with_reducible apply kp_seqT); with_reducible assumption) | ((with_reducible apply Dw.same); with_reducible assumption))); done))
      | ((with_reducible apply R.ne4); focus ((repeat' (first | with_reducible assumption | with_reducible apply hU | ((with_reducible apply SqT.of); with_reducible assumption) | ((with_reducible apply same_seqT); with_reducible assumption) | ((with_reducible apply kp_seqT); with_reducible assumption) | ((with_reducible apply Dw.same); with_reducible assumption))); done))
      | ((with_reducible apply R.ne3); focus ((repeat' (first | with_reducible assumption | with_reducible apply hU | ((with_reducible apply SqT.of); with_reducible assumption) | ((with_reducible apply same_seqT); with_reducible assumption) | ((with_reducible apply kp_seqT); with_reducible assumption) | ((with_reducible apply Dw.same); with_reducible assumption))); done))
      | ((with_reducible apply R.ne2); focus ((repeat' (first | with_reducible assumption | with_reducible apply hU | ((with_reducible apply SqT.of); with_reducible assumption) | ((with_reducible apply same_seqT); with_reducible assumption) | ((with_reducible apply kp_seqT); with_reducible assumption) | ((with_reducible apply Dw.same); with_reducible assumption))); done))
      | ((with_reducible apply R.eq4); focus ((repeat' (first | with_reducible assumption | with_reducible apply hU | ((with_reducible apply SqT.of); with_reducible assumption) | ((with_reducible apply same_seqT); with_reducible assumption) | ((with_reducible apply kp_seqT); with_reducible assumption) | ((with_reducible apply Dw.same); with_reducible assumption))); done))
      | ((with_reducible apply R.eq3); focus ((repeat' (first | with_reducible assumption | with_reducible apply hU | ((with_reducible apply SqT.of); with_reducible assumption) | ((with_reducible apply same_seqT); with_reducible assumption) | ((with_reducible apply kp_seqT); with_reducible assumption) | ((with_reducible apply Dw.same); with_reducible assumption))); done))
      | ((with_reducible apply R.eq2); focus ((repeat' (first | with_reducible assumption | with_reducible apply hU | ((with_reducible apply SqT.of); with_reducible assumption) | ((with_reducible apply same_seqT); with_reducible assumption) | ((with_reducible apply kp_seqT); with_reducible assumption) | ((with_reducible apply Dw.same); with_reducible assumption))); done))
      | with_reducible apply uLawNext
      | with_reducible apply uLawWide
      | ((with_reducible apply R.nw); intro HN tn sn ht)
      | with_reducible apply iteT
      | with_reducible apply iteF
      | with_reducible apply R.notT
      | with_reducible apply R.notF
      | ((with_reducible apply SqT.of); with_reducible assumption)
      | ((with_reducible apply SqL.of); with_reducible assumption)
      | ((with_reducible apply same_seqT); with_reducible assumption)
      | ((with_reducible apply sameB); with_reducible assumption)
      | ((with_reducible apply same_at); with_reducible assumption)
      | ((with_reducible apply kp_seqT); with_reducible assumption)
      | ((with_reducible apply Same.seq); with_reducible assumption)
      | ((with_reducible apply Kp.seqL); with_reducible assumption)
      | ((with_reducible apply fresh_ne); with_reducible assumption)
      | ((with_reducible apply Dw.same); with_reducible assumption)
      | ((with_reducible apply R.isEq); exact eq_true (by first | decide | omega))
      | ((with_reducible apply R.isLt); first | decide | omega)
      | ((with_reducible apply R.isLtI); first | decide | omega)
      | ((with_reducible apply R.isLeI); first | decide | omega)
      | ((with_reducible apply R.cdiv); exact rfl)
      | ((with_reducible apply R.cpow); exact rfl)
      | with_reducible apply R.cdivX
      | ((with_reducible apply R.isNe); omega)
      | with_reducible apply hU
      | ((with_reducible apply wayNF); first | exact rfl | exact ⟨rfl, rfl⟩ | exact ⟨rfl, rfl, rfl⟩ | exact ⟨rfl, rfl, rfl, rfl⟩)
      | with_reducible apply R.forE
      | with_reducible apply R.rng1
      | with_reducible apply R.rng2
      | with_reducible apply R.rg1
      | with_reducible apply R.rg2
      | with_reducible apply R.lcE
      | with_reducible apply R.itup
      | with_reducible apply R.ilst
      )
    refine ⟨_, rfl, ?_⟩
    rw [abs_int]
    generalize htop : (d - pv * pv).natAbs = top
    repeat' (first
      | with_reducible apply R.var
      | ((with_reducible apply R.isEq); exact rfl)
      | with_reducible apply R.op
      | with_reducible apply R.i2
      | with_reducible apply R.i0
      | with_reducible apply R.con
      | with_reducible apply R.cons
      | with_reducible apply R.nil
      | with_reducible apply R.gcons
      | with_reducible apply R.gname
      | ((with_reducible apply R.ixT); (focus ((repeat' (first | with_reducible assumption | with_reducible apply hU | ((with_reducible apply SqT.of); with_reducible assumption) | ((with_reducible apply same_seqT); with_reducible assumption) | ((with_reducible apply kp_seqT); with_reducible assumption) | ((with_reducible apply Dw.same); with_reducible assumption))); done)); exact rfl)
      | ((with_reducible apply R.ixL); (focus ((repeat' (first | with_reducible assumption | ((with_reducible apply SqL.of); with_reducible assumption) | ((with_reducible apply Same.seq); with_reducible assumption) | ((with_reducible apply Kp.seqL); with_reducible assumption) | ((with_reducible apply fresh_ne); with_reducible assumption) | ((with_reducible apply Dw.same); with_reducible assumption))); done)); exact rfl)
      | with_reducible assumption
      | with_reducible apply Bd.mulW
      | with_reducible apply Bd.mul
      | with_reducible apply Bd.add
      | with_reducible apply Bd.sub
      | ((with_reducible apply Bd.l8); exact eq_true (by decide))
      | ((with_reducible apply Bd.lit); exact eq_true (by decide))
      | with_reducible apply Bd.neg
      | with_reducible apply Bd.div
      | with_reducible apply Bd.abs
      | with_reducible apply Bd.mod
      | with_reducible apply Bd.fdiv
      | ((with_reducible apply Bd.om); omega)
      | ((with_reducible apply R.isLe); first | decide | omega)
      | with_reducible apply R.un
      | with_reducible apply R.u1
      | with_reducible apply R.tup
      | with_reducible apply R.lst
      | with_reducible apply R.call
      | with_reducible apply R.callB
      | with_reducible apply R.gtup
      | with_reducible apply R.gnil
      | with_reducible apply R.seq
      | with_reducible apply R.asg
      | with_reducible apply R.ret
      | with_reducible apply R.brk
      | with_reducible apply R.cont
      | with_reducible apply R.next
      | with_reducible apply R.drop
      | with_reducible apply R.par
      | with_reducible apply R.par2
      | with_reducible apply R.ifs
      | with_reducible apply R.tif
      | with_reducible apply R.test
      | with_reducible apply R.tb'
      | with_reducible apply R.isbl
      | with_reducible apply R.cmp
      | with_reducible apply R.t2i
      | with_reducible apply R.intp
      | with_reducible apply R.and
      | with_reducible apply R.or
      | with_reducible apply R.not
      | with_reducible apply R.andV
      | with_reducible apply R.orV
      | with_reducible apply R.notV
      | with_reducible apply R.chain
      | with_reducible apply R.tupL
      | with_reducible apply R.lstL
      | with_reducible apply R.cat
      | with_reducible apply R.absI
      | with_reducible apply R.intI
      | with_reducible apply R.intB
      | with_reducible apply R.eqS
      | with_reducible apply R.eqBl
      | with_reducible apply R.neBl
      | with_reducible apply R.sl
      | with_reducible apply R.noPart
      | with_reducible apply R.part
      | with_reducible apply R.isInt
      | with_reducible apply R.slL
      | with_reducible apply R.isiT
      | with_reducible apply R.isiLst
      | with_reducible apply R.nwT
      | with_reducible apply R.nwL
      | ((with_reducible apply R.mt); intro HN tn sn nn ht)
      | ((with_reducible apply R.ml); intro HN tn sn nn ht)
      | ((with_reducible apply R.isiTupS); focus ((repeat' (first | with_reducible assumption | with_reducible apply hU | ((with_reducible apply SqT.of); with_reducible assumption) | ((with_reducible apply same_seqT); with_reducible assumption) | ((with_reducible apply kp_seqT); with_reducible assumption) | ((with_reducible apply Dw.same); with_reducible assumption))); done))
      | ((with_reducible apply R.ne4); focus ((repeat' (first | with_reducible assumption | with_reducible apply hU | ((with_reducible apply SqT.of); with_reducible assumption) | ((with_reducible apply same_seqT); with_reducible assumption) | ((with_reducible apply kp_seqT); with_reducible assumption) | ((with_reducible apply Dw.same); with_reducible assumption))); done))
      | ((with_reducible apply R.ne3); focus ((repeat' (first | with_reducible assumption | with_reducible apply hU | ((with_reducible apply SqT.of); with_reducible assumption) | ((with_reducible apply same_seqT); with_reducible assumption) | ((with_reducible apply kp_seqT); with_reducible assumption) | ((with_reducible apply Dw.same); with_reducible assumption))); done))
      | ((with_reducible apply R.ne2); focus ((repeat' (first | with_reducible assumption | with_reducible apply hU | ((with_reducible apply SqT.of); with_reducible assumption) | ((with_reducible apply same_seqT); with_reducible assumption) | ((with_reducible apply kp_seqT); with_reducible assumption) | ((with_reducible apply Dw.same); with_reducible assumption))); done))
      | ((with_reducible apply R.eq4); focus ((repeat' (first | with_reducible assumption | with_reducible apply hU | ((with_reducible apply SqT.of); with_reducible assumption) | ((with_reducible apply same_seqT); with_reducible assumption) | ((with_reducible apply kp_seqT); with_reducible assumption) | ((with_reducible apply Dw.same); with_reducible assumption))); done))
      | ((with_reducible apply R.eq3); focus ((repeat' (first | with_reducible assumption | with_reducible apply hU | ((with_reducible apply SqT.of); with_reducible assumption) | ((with_reducible apply same_seqT); with_reducible assumption) | ((with_reducible apply kp_seqT); with_reducible assumption) | ((with_reducible apply Dw.same); with_reducible assumption))); done))
      | ((with_reducible apply R.eq2); focus ((repeat' (first | with_reducible assumption | with_reducible apply hU | ((with_reducible apply SqT.of); with_reducible assumption) | ((with_reducible apply same_seqT); with_reducible assumption) | ((with_reducible apply kp_seqT); with_reducible assumption) | ((with_reducible apply Dw.same); with_reducible assumption))); done))
      | with_reducible apply uLawNext
      | with_reducible apply uLawWide
      | ((with_reducible apply R.nw); intro HN tn sn ht)
      | with_reducible apply iteT
      | with_reducible apply iteF
      | with_reducible apply R.notT
      | with_reducible apply R.notF
      | ((with_reducible apply SqT.of); with_reducible assumption)
      | ((with_reducible apply SqL.of); with_reducible assumption)
      | ((with_reducible apply same_seqT); with_reducible assumption)
      | ((with_reducible apply sameB); with_reducible assumption)
      | ((with_reducible apply same_at); with_reducible assumption)
      | ((with_reducible apply kp_seqT); with_reducible assumption)
      | ((with_reducible apply Same.seq); with_reducible assumption)
      | ((with_reducible apply Kp.seqL); with_reducible assumption)
      | ((with_reducible apply fresh_ne); with_reducible assumption)
      | ((with_reducible apply Dw.same); with_reducible assumption)
      | ((with_reducible apply R.isEq); exact eq_true (by first | decide | omega))
      | ((with_reducible apply R.isLt); first | decide | omega)
      | ((with_reducible apply R.isLtI); first | decide | omega)
      | ((with_reducible apply R.isLeI); first | decide | omega)
      | ((with_reducible apply R.cdiv); exact rfl)
      | ((with_reducible apply R.cpow); exact rfl)
      | with_reducible apply R.cdivX
      | ((with_reducible apply R.isNe); omega)
      | with_reducible apply hU
      | ((with_reducible apply wayNF); first | exact rfl | exact ⟨rfl, rfl⟩ | exact ⟨rfl, rfl, rfl⟩ | exact ⟨rfl, rfl, rfl, rfl⟩)
      | with_reducible apply R.forE
      | with_reducible apply R.rng1
      | with_reducible apply R.rng2
      | with_reducible apply R.rg1
      | with_reducible apply R.rg2
      | with_reducible apply R.lcE
      | with_reducible apply R.itup
      | with_reducible apply R.ilst
      )
    refine ⟨_, [(top : Int), 200], rfl, SqL.of ht, (by show 0 < 2; decide), fun m hm hle => ?_⟩
    have hm0 : 0 ≤ m ∧ m ≤ 200 := by
      have := hle 200 (by simp)
      simp only [List.mem_cons, List.not_mem_nil, or_false] at hm
      omega
    clear hm hle
    repeat' (first
      | with_reducible apply R.var
      | ((with_reducible apply R.isEq); exact rfl)
      | with_reducible apply R.op
      | with_reducible apply R.i2
      | with_reducible apply R.i0
      | with_reducible apply R.con
      | with_reducible apply R.cons
      | with_reducible apply R.nil
      | with_reducible apply R.gcons
      | with_reducible apply R.gname
      | ((with_reducible apply R.ixT); (focus ((repeat' (first | with_reducible assumption | with_reducible apply hU | ((with_reducible apply SqT.of); with_reducible assumption) | ((with_reducible apply same_seqT); with_reducible assumption) | ((with_reducible apply kp_seqT); with_reducible assumption) | ((with_reducible apply Dw.same); with_reducible assumption))); done)); exact rfl)
      | ((with_reducible apply R.ixL); (focus ((repeat' (first | with_reducible assumption | ((with_reducible apply SqL.of); with_reducible assumption) | ((with_reducible apply Same.seq); with_reducible assumption) | ((with_reducible apply Kp.seqL); with_reducible assumption) | ((with_reducible apply fresh_ne); with_reducible assumption) | ((with_reducible apply Dw.same); with_reducible assumption))); done)); exact rfl)
      | with_reducible assumption
      | with_reducible apply Bd.mulW
      | with_reducible apply Bd.mul
      | with_reducible apply Bd.add
      | with_reducible apply Bd.sub
      | ((with_reducible apply Bd.l8); exact eq_true (by decide))
      | ((with_reducible apply Bd.lit); exact eq_true (by decide))
      | with_reducible apply Bd.neg
      | with_reducible apply Bd.div
      | with_reducible apply Bd.abs
      | with_reducible apply Bd.mod
      | with_reducible apply Bd.fdiv
      | ((with_reducible apply Bd.om); omega)
      | ((with_reducible apply R.isLe); first | decide | omega)
      | with_reducible apply R.un
      | with_reducible apply R.u1
      | with_reducible apply R.tup
      | with_reducible apply R.lst
      | with_reducible apply R.call
      | with_reducible apply R.callB
      | with_reducible apply R.gtup
      | with_reducible apply R.gnil
      | with_reducible apply R.seq
      | with_reducible apply R.asg
      | with_reducible apply R.ret
      | with_reducible apply R.brk
      | with_reducible apply R.cont
      | with_reducible apply R.next
      | with_reducible apply R.drop
      | with_reducible apply R.par
      | with_reducible apply R.par2
      | with_reducible apply R.ifs
      | with_reducible apply R.tif
      | with_reducible apply R.test
      | with_reducible apply R.tb'
      | with_reducible apply R.isbl
      | with_reducible apply R.cmp
      | with_reducible apply R.t2i
      | with_reducible apply R.intp
      | with_reducible apply R.and
      | with_reducible apply R.or
      | with_reducible apply R.not
      | with_reducible apply R.andV
      | with_reducible apply R.orV
      | with_reducible apply R.notV
      | with_reducible apply R.chain
      | with_reducible apply R.tupL
      | with_reducible apply R.lstL
      | with_reducible apply R.cat
      | with_reducible apply R.absI
      | with_reducible apply R.intI
      | with_reducible apply R.intB
      | with_reducible apply R.eqS
      | with_reducible apply R.eqBl
      | with_reducible apply R.neBl
      | with_reducible apply R.sl
      | with_reducible apply R.noPart
      | with_reducible apply R.part
      | with_reducible apply R.isInt
      | with_reducible apply R.slL
      | with_reducible apply R.isiT
      | with_reducible apply R.isiLst
      | with_reducible apply R.nwT
      | with_reducible apply R.nwL
      | ((with_reducible apply R.mt); intro HN tn sn nn ht)
      | ((with_reducible apply R.ml); intro HN tn sn nn ht)
      | ((with_reducible apply R.isiTupS); focus ((repeat' (first | with_reducible assumption | with_reducible apply hU | ((with_reducible apply SqT.of); with_reducible assumption) | ((with_reducible apply same_seqT); with_reducible assumption) | ((with_reducible apply kp_seqT); with_reducible assumption) | ((with_reducible apply Dw.same); with_reducible assumption))); done))
      | ((with_reducible apply R.ne4); focus ((repeat' (first | with_reducible assumption | with_reducible apply hU | ((with_reducible apply SqT.of); with_reducible assumption) | ((with_reducible apply same_seqT); with_reducible assumption) | ((with_reducible apply kp_seqT); with_reducible assumption) | ((with_reducible apply Dw.same); with_reducible assumption))); done))
      | ((with_reducible apply R.ne3); focus ((repeat' (first | with_reducible assumption | with_reducible apply hU | ((with_reducible apply SqT.of); with_reducible assumption) | ((with_reducible apply same_seqT); with_reducible assumption) | ((with_reducible apply kp_seqT); with_reducible assumption) | ((with_reducible apply Dw.same); with_reducible assumption))); done))
      | ((with_reducible apply R.ne2); focus ((repeat' (first | with_reducible assumption | with_reducible apply hU | ((with_reducible apply SqT.of); with_reducible assumption) | ((with_reducible apply same_seqT); with_reducible assumption) | ((with_reducible apply kp_seqT); with_reducible assumption) | ((with_reducible apply Dw.same); with_reducible assumption))); done))
      | ((with_reducible apply R.eq4); focus ((repeat' (first | with_reducible assumption | with_reducible apply hU | ((with_reducible apply SqT.of); with_reducible assumption) | ((with_reducible apply same_seqT); with_reducible assumption) | ((with_reducible apply kp_seqT); with_reducible assumption) | ((with_reducible apply Dw.same); with_reducible assumption))); done))
      | ((with_reducible apply R.eq3); focus ((repeat' (first | with_reducible assumption | with_reducible apply hU | ((with_reducible apply SqT.of); with_reducible assumption) | ((with_reducible apply same_seqT); with_reducible assumption) | ((with_reducible apply kp_seqT); with_reducible assumption) | ((with_reducible apply Dw.same); with_reducible assumption))); done))
      | ((with_reducible apply R.eq2); focus ((repeat' (first | with_reducible assumption | with_reducible apply hU | ((with_reducible apply SqT.of); with_reducible assumption) | ((with_reducible apply same_seqT); with_reducible assumption) | ((with_reducible apply kp_seqT); with_reducible assumption) | ((with_reducible apply Dw.same); with_reducible assumption))); done))
      | with_reducible apply uLawNext
      | with_reducible apply uLawWide
      | ((with_reducible apply R.nw); intro HN tn sn ht)
      | with_reducible apply iteT
      | with_reducible apply iteF
      | with_reducible apply R.notT
      | with_reducible apply R.notF
      | ((with_reducible apply SqT.of); with_reducible assumption)
      | ((with_reducible apply SqL.of); with_reducible assumption)
      | ((with_reducible apply same_seqT); with_reducible assumption)
      | ((with_reducible apply sameB); with_reducible assumption)
      | ((with_reducible apply same_at); with_reducible assumption)
      | ((with_reducible apply kp_seqT); with_reducible assumption)
      | ((with_reducible apply Same.seq); with_reducible assumption)
      | ((with_reducible apply Kp.seqL); with_reducible assumption)
      | ((with_reducible apply fresh_ne); with_reducible assumption)
      | ((with_reducible apply Dw.same); with_reducible assumption)
      | ((with_reducible apply R.isEq); exact eq_true (by first | decide | omega))
      | ((with_reducible apply R.isLt); first | decide | omega)
      | ((with_reducible apply R.isLtI); first | decide | omega)
      | ((with_reducible apply R.isLeI); first | decide | omega)
      | ((with_reducible apply R.cdiv); exact rfl)
      | ((with_reducible apply R.cpow); exact rfl)
      | with_reducible apply R.cdivX
      | ((with_reducible apply R.isNe); omega)
      | with_reducible apply hU
      | ((with_reducible apply wayNF); first | exact rfl | exact ⟨rfl, rfl⟩ | exact ⟨rfl, rfl, rfl⟩ | exact ⟨rfl, rfl, rfl, rfl⟩)
      | with_reducible apply R.forE
      | with_reducible apply R.rng1
      | with_reducible apply R.rng2
      | with_reducible apply R.rg1
      | with_reducible apply R.rg2
      | with_reducible apply R.lcE
      | with_reducible apply R.itup
      | with_reducible apply R.ilst
      )
    have d8 : Dw HN p a _ := d7.same sn
    intro D nD
    have Dp := (d8.ne nD).1
    have Da := (d8.ne nD).2
    refine lc_range (lo := 1) (n := (m + 1 - 1).toNat) (fun i H' => ∃ ms : List Int, H' D = some (.lst (ms.map V.int)) ∧ ms.length ≤ i ∧ (∀ x ∈ ms, 1 ≤ x ∧ x ≤ 200) ∧ Same HN H')
      ⟨[], upd_same, Nat.le_refl 0, (fun x h => nomatch h), same_upd nD⟩ (fun i H8 hi ⟨ms, h1, h2, h3, h4⟩ => ?_) (fun H8 ⟨ms, h1, h2, h3, h4⟩ => ?_)
    · skip
      repeat' (first
        | with_reducible apply R.var
        | ((with_reducible apply R.isEq); exact rfl)
        | with_reducible apply R.op
        | with_reducible apply R.i2
        | with_reducible apply R.i0
        | with_reducible apply R.con
        | with_reducible apply R.cons
        | with_reducible apply R.nil
        | with_reducible apply R.gcons
        | with_reducible apply R.gname
        | ((with_reducible apply R.ixT); (focus ((repeat' (first | with_reducible assumption | with_reducible apply hU | ((with_reducible apply SqT.of); with_reducible assumption) | ((with_reducible apply same_seqT); with_reducible assumption) | ((with_reducible apply kp_seqT); with_reducible assumption) | ((with_reducible apply Dw.same); with_reducible assumption))); done)); exact rfl)
        | ((with_reducible apply R.ixL); (focus ((repeat' (first | with_reducible assumption | ((with_reducible apply SqL.of); with_reducible assumption) | ((with_reducible apply Same.seq); with_reducible assumption) | ((with_reducible apply Kp.seqL); with_reducible assumption) | ((with_reducible apply fresh_ne); with_reducible assumption) | ((with_reducible apply Dw.same); with_reducible assumption))); done)); exact rfl)
        | with_reducible assumption
        | with_reducible apply Bd.mulW
        | with_reducible apply Bd.mul
        | with_reducible apply Bd.add
        | with_reducible apply Bd.sub
        | ((with_reducible apply Bd.l8); exact eq_true (by decide))
        | ((with_reducible apply Bd.lit); exact eq_true (by decide))
        | with_reducible apply Bd.neg
        | with_reducible apply Bd.div
        | with_reducible apply Bd.abs
        | with_reducible apply Bd.mod
        | with_reducible apply Bd.fdiv
        | ((with_reducible apply Bd.om); omega)
        | ((with_reducible apply R.isLe); first | decide | omega)
        | with_reducible apply R.un
        | with_reducible apply R.u1
        | with_reducible apply R.tup
        | with_reducible apply R.lst
        | with_reducible apply R.call
        | with_reducible apply R.callB
        | with_reducible apply R.gtup
        | with_reducible apply R.gnil
        | with_reducible apply R.seq
        | with_reducible apply R.asg
        | with_reducible apply R.ret
        | with_reducible apply R.brk
        | with_reducible apply R.cont
        | with_reducible apply R.next
        | with_reducible apply R.drop
        | with_reducible apply R.par
        | with_reducible apply R.par2
        | with_reducible apply R.ifs
        | with_reducible apply R.tif
        | with_reducible apply R.test
        | with_reducible apply R.tb'
        | with_reducible apply R.isbl
        | with_reducible apply R.cmp
        | with_reducible apply R.t2i
        | with_reducible apply R.intp
        | with_reducible apply R.and
        | with_reducible apply R.or
        | with_reducible apply R.not
        | with_reducible apply R.andV
        | with_reducible apply R.orV
        | with_reducible apply R.notV
        | with_reducible apply R.chain
        | with_reducible apply R.tupL
        | with_reducible apply R.lstL
        | with_reducible apply R.cat
        | with_reducible apply R.absI
        | with_reducible apply R.intI
        | with_reducible apply R.intB
        | with_reducible apply R.eqS
        | with_reducible apply R.eqBl
        | with_reducible apply R.neBl
        | with_reducible apply R.sl
        | with_reducible apply R.noPart
        | with_reducible apply R.part
        | with_reducible apply R.isInt
        | with_reducible apply R.slL
        | with_reducible apply R.isiT
        | with_reducible apply R.isiLst
        | with_reducible apply R.nwT
        | with_reducible apply R.nwL
        | ((with_reducible apply R.mt); intro HN tn sn nn ht)
        | ((with_reducible apply R.ml); intro HN tn sn nn ht)
        | ((with_reducible apply R.isiTupS); focus ((repeat' (first | with_reducible assumption | with_reducible apply hU | ((with_reducible apply SqT.of); with_reducible assumption) | ((with_reducible apply same_seqT); with_reducible assumption) | ((with_reducible apply kp_seqT); with_reducible assumption) | ((with_reducible apply Dw.same); with_reducible assumption))); done))
        | ((with_reducible apply R.ne4); focus ((repeat' (first | with_reducible assumption | with_reducible apply hU | ((with_reducible apply SqT.of); with_reducible assumption) | ((with_reducible apply same_seqT); with_reducible assumption) | ((with_reducible apply kp_seqT); with_reducible assumption) | ((with_reducible apply Dw.same); with_reducible assumption))); done))
        | ((with_reducible apply R.ne3); focus ((repeat' (first | with_reducible assumption | with_reducible apply hU | ((with_reducible apply SqT.of); with_reducible assumption) | ((with_reducible apply same_seqT); with_reducible assumption) | ((with_reducible apply kp_seqT); with_reducible assumption) | ((with_reducible apply Dw.same); with_reducible assumption))); done))
        | ((with_reducible apply R.ne2); focus ((repeat' (first | with_reducible assumption | with_reducible apply hU | ((with_reducible apply SqT.of); with_reducible assumption) | ((with_reducible apply same_seqT); with_reducible assumption) | ((with_reducible apply kp_seqT); with_reducible assumption) | ((with_reducible apply Dw.same); with_reducible assumption))); done))
        | ((with_reducible apply R.eq4); focus ((repeat' (first | with_reducible assumption | with_reducible apply hU | ((with_reducible apply SqT.of); with_reducible assumption) | ((with_reducible apply same_seqT); with_reducible assumption) | ((with_reducible apply kp_seqT); with_reducible assumption) | ((with_reducible apply Dw.same); with_reducible assumption))); done))
        | ((with_reducible apply R.eq3); focus ((repeat' (first | with_reducible assumption | with_reducible apply hU | ((with_reducible apply SqT.of); with_reducible assumption) | ((with_reducible apply same_seqT); with_reducible assumption) | ((with_reducible apply kp_seqT); with_reducible assumption) | ((with_reducible apply Dw.same); with_reducible assumption))); done))
        | ((with_reducible apply R.eq2); focus ((repeat' (first | with_reducible assumption | with_reducible apply hU | ((with_reducible apply SqT.of); with_reducible assumption) | ((with_reducible apply same_seqT); with_reducible assumption) | ((with_reducible apply kp_seqT); with_reducible assumption) | ((with_reducible apply Dw.same); with_reducible assumption))); done))
        | with_reducible apply uLawNext
        | with_reducible apply uLawWide
        | ((with_reducible apply R.nw); intro HN tn sn ht)
        | with_reducible apply iteT
        | with_reducible apply iteF
        | with_reducible apply R.notT
        | with_reducible apply R.notF
        | ((with_reducible apply SqT.of); with_reducible assumption)
        | ((with_reducible apply SqL.of); with_reducible assumption)
        | ((with_reducible apply same_seqT); with_reducible assumption)
        | ((with_reducible apply sameB); with_reducible assumption)
        | ((with_reducible apply same_at); with_reducible assumption)
        | ((with_reducible apply kp_seqT); with_reducible assumption)
        | ((with_reducible apply Same.seq); with_reducible assumption)
        | ((with_reducible apply Kp.seqL); with_reducible assumption)
        | ((with_reducible apply fresh_ne); with_reducible assumption)
        | ((with_reducible apply Dw.same); with_reducible assumption)
        | ((with_reducible apply R.isEq); exact eq_true (by first | decide | omega))
        | ((with_reducible apply R.isLt); first | decide | omega)
        | ((with_reducible apply R.isLtI); first | decide | omega)
        | ((with_reducible apply R.isLeI); first | decide | omega)
        | ((with_reducible apply R.cdiv); exact rfl)
        | ((with_reducible apply R.cpow); exact rfl)
        | with_reducible apply R.cdivX
        | ((with_reducible apply R.isNe); omega)
        | with_reducible apply hU
        | ((with_reducible apply wayNF); first | exact rfl | exact ⟨rfl, rfl⟩ | exact ⟨rfl, rfl, rfl⟩ | exact ⟨rfl, rfl, rfl, rfl⟩)
        | with_reducible apply R.forE
        | with_reducible apply R.rng1
        | with_reducible apply R.rng2
        | with_reducible apply R.rg1
        | with_reducible apply R.rg2
        | with_reducible apply R.lcE
        | with_reducible apply R.itup
        | with_reducible apply R.ilst
        )
      refine ⟨rfl, ?_⟩
      repeat' (first
        | with_reducible apply R.var
        | ((with_reducible apply R.isEq); exact rfl)
        | with_reducible apply R.op
        | with_reducible apply R.i2
        | with_reducible apply R.i0
        | with_reducible apply R.con
        | with_reducible apply R.cons
        | with_reducible apply R.nil
        | with_reducible apply R.gcons
        | with_reducible apply R.gname
        | ((with_reducible apply R.ixT); (focus ((repeat' (first | with_reducible assumption | with_reducible apply hU | ((with_reducible apply SqT.of); with_reducible assumption) | ((with_reducible apply same_seqT); with_reducible assumption) | ((with_reducible apply kp_seqT); with_reducible assumption) | ((with_reducible apply Dw.same); with_reducible assumption))); done)); exact rfl)
        | ((with_reducible apply R.ixL); (focus ((repeat' (first | with_reducible assumption | ((with_reducible apply SqL.of); with_reducible assumption) | ((with_reducible apply Same.seq); with_reducible assumption) | ((with_reducible apply Kp.seqL); with_reducible assumption) | ((with_reducible apply fresh_ne); with_reducible assumption) | ((with_reducible apply Dw.same); with_reducible assumption))); done)); exact rfl)
        | with_reducible assumption
        | with_reducible apply Bd.mulW
        | with_reducible apply Bd.mul
        | with_reducible apply Bd.add
        | with_reducible apply Bd.sub
        | ((with_reducible apply Bd.l8); exact eq_true (by decide))
        | ((with_reducible apply Bd.lit); exact eq_true (by decide))
        | with_reducible apply Bd.neg
        | with_reducible apply Bd.div
        | with_reducible apply Bd.abs
        | with_reducible apply Bd.mod
        | with_reducible apply Bd.fdiv
        | ((with_reducible apply Bd.om); omega)
        | ((with_reducible apply R.isLe); first | decide | omega)
        | with_reducible apply R.un
        | with_reducible apply R.u1
        | with_reducible apply R.tup
        | with_reducible apply R.lst
        | with_reducible apply R.call
        | with_reducible apply R.callB
        | with_reducible apply R.gtup
        | with_reducible apply R.gnil
        | with_reducible apply R.seq
        | with_reducible apply R.asg
        | with_reducible apply R.ret
        | with_reducible apply R.brk
        | with_reducible apply R.cont
        | with_reducible apply R.next
        | with_reducible apply R.drop
        | with_reducible apply R.par
        | with_reducible apply R.par2
        | with_reducible apply R.ifs
        | with_reducible apply R.tif
        | with_reducible apply R.test
        | with_reducible apply R.tb'
        | with_reducible apply R.isbl
        | with_reducible apply R.cmp
        | with_reducible apply R.t2i
        | with_reducible apply R.intp
        | with_reducible apply R.and
        | with_reducible apply R.or
        | with_reducible apply R.not
        | with_reducible apply R.andV
        | with_reducible apply R.orV
        | with_reducible apply R.notV
        | with_reducible apply R.chain
        | with_reducible apply R.tupL
        | with_reducible apply R.lstL
        | with_reducible apply R.cat
        | with_reducible apply R.absI
        | with_reducible apply R.intI
        | with_reducible apply R.intB
        | with_reducible apply R.eqS
        | with_reducible apply R.eqBl
        | with_reducible apply R.neBl
        | with_reducible apply R.sl
        | with_reducible apply R.noPart
        | with_reducible apply R.part
        | with_reducible apply R.isInt
        | with_reducible apply R.slL
        | with_reducible apply R.isiT
        | with_reducible apply R.isiLst
        | with_reducible apply R.nwT
        | with_reducible apply R.nwL
        | ((with_reducible apply R.mt); intro HN tn sn nn ht)
        | ((with_reducible apply R.ml); intro HN tn sn nn ht)
        | ((with_reducible apply R.isiTupS); focus ((repeat' (first | with_reducible assumption | with_reducible apply hU | ((with_reducible apply SqT.of); with_reducible assumption) | ((with_reducible apply same_seqT); with_reducible assumption) | ((with_reducible apply kp_seqT); with_reducible assumption) | ((with_reducible apply Dw.same); with_reducible assumption))); done))
        | ((with_reducible apply R.ne4); focus ((repeat' (first | with_reducible assumption | with_reducible apply hU | ((with_reducible apply SqT.of); with_reducible assumption) | ((with_reducible apply same_seqT); with_reducible assumption) | ((with_reducible apply kp_seqT); with_reducible assumption) | ((with_reducible apply Dw.same); with_reducible assumption))); done))
        | ((with_reducible apply R.ne3); focus ((repeat' (first | with_reducible assumption | with_reducible apply hU | ((with_reducible apply SqT.of); with_reducible assumption) | ((with_reducible apply same_seqT); with_reducible assumption) | ((with_reducible apply kp_seqT); with_reducible assumption) | ((with_reducible apply Dw.same); with_reducible assumption))); done))
        | ((with_reducible apply R.ne2); focus ((repeat' (first | with_reducible assumption | with_reducible apply hU | ((with_reducible apply SqT.of); with_reducible assumption) | ((with_reducible apply same_seqT); with_reducible assumption) | ((with_reducible apply kp_seqT); with_reducible assumption) | ((with_reducible apply Dw.same); with_reducible assumption))); done))
        | ((with_reducible apply R.eq4); focus ((repeat' (first | with_reducible assumption | with_reducible apply hU | ((with_reducible apply SqT.of); with_reducible assumption) | ((with_reducible apply same_seqT); with_reducible assumption) | ((with_reducible apply kp_seqT); with_reducible assumption) | ((with_reducible apply Dw.same); with_reducible assumption))); done))
        | ((with_reducible apply R.eq3); focus ((repeat' (first | with_reducible assumption | with_reducible apply hU | ((with_reducible apply SqT.of); with_reducible assumption) | ((with_reducible apply same_seqT); with_reducible assumption) | ((with_reducible apply kp_seqT); with_reducible assumption) | ((with_reducible apply Dw.same); with_reducible assumption))); done))
        | ((with_reducible apply R.eq2); focus ((repeat' (first | with_reducible assumption | with_reducible apply hU | ((with_reducible apply SqT.of); with_reducible assumption) | ((with_reducible apply same_seqT); with_reducible assumption) | ((with_reducible apply kp_seqT); with_reducible assumption) | ((with_reducible apply Dw.same); with_reducible assumption))); done))
        | with_reducible apply uLawNext
        | with_reducible apply uLawWide
        | ((with_reducible apply R.nw); intro HN tn sn ht)
        | with_reducible apply iteT
        | with_reducible apply iteF
        | with_reducible apply R.notT
        | with_reducible apply R.notF
        | ((with_reducible apply SqT.of); with_reducible assumption)
        | ((with_reducible apply SqL.of); with_reducible assumption)
        | ((with_reducible apply same_seqT); with_reducible assumption)
        | ((with_reducible apply sameB); with_reducible assumption)
        | ((with_reducible apply same_at); with_reducible assumption)
        | ((with_reducible apply kp_seqT); with_reducible assumption)
        | ((with_reducible apply Same.seq); with_reducible assumption)
        | ((with_reducible apply Kp.seqL); with_reducible assumption)
        | ((with_reducible apply fresh_ne); with_reducible assumption)
        | ((with_reducible apply Dw.same); with_reducible assumption)
        | ((with_reducible apply R.isEq); exact eq_true (by first | decide | omega))
        | ((with_reducible apply R.isLt); first | decide | omega)
        | ((with_reducible apply R.isLtI); first | decide | omega)
        | ((with_reducible apply R.isLeI); first | decide | omega)
        | ((with_reducible apply R.cdiv); exact rfl)
        | ((with_reducible apply R.cpow); exact rfl)
        | with_reducible apply R.cdivX
        | ((with_reducible apply R.isNe); omega)
        | with_reducible apply hU
        | ((with_reducible apply wayNF); first | exact rfl | exact ⟨rfl, rfl⟩ | exact ⟨rfl, rfl, rfl⟩ | exact ⟨rfl, rfl, rfl, rfl⟩)
        | with_reducible apply R.forE
        | with_reducible apply R.rng1
        | with_reducible apply R.rng2
        | with_reducible apply R.rg1
        | with_reducible apply R.rg2
        | with_reducible apply R.lcE
        | with_reducible apply R.itup
        | with_reducible apply R.ilst
        )
      refine way2 (fun z => ?_) (fun z => ?_)
      · skip
        repeat' (first
          | with_reducible apply R.var
          | ((with_reducible apply R.isEq); exact rfl)
          | with_reducible apply R.op
          | with_reducible apply R.i2
          | with_reducible apply R.i0
          | with_reducible apply R.con
          | with_reducible apply R.cons
          | with_reducible apply R.nil
          | with_reducible apply R.gcons
          | with_reducible apply R.gname
          | ((with_reducible apply R.ixT); (focus ((repeat' (first | with_reducible assumption | with_reducible apply hU | ((with_reducible apply SqT.of); with_reducible assumption) | ((with_reducible apply same_seqT); with_reducible assumption) | ((with_reducible apply kp_seqT); with_reducible assumption) | ((with_reducible apply Dw.same); with_reducible assumption))); done)); exact rfl)
          | ((with_reducible apply R.ixL); (focus ((repeat' (first | with_reducible assumption | ((with_reducible apply SqL.of); with_reducible assumption) | ((with_reducible apply Same.seq); with_reducible assumption) | ((with_reducible apply Kp.seqL); with_reducible assumption) | ((with_reducible apply fresh_ne); with_reducible assumption) | ((with_reducible apply Dw.same); with_reducible assumption))); done)); exact rfl)
          | with_reducible assumption
          | with_reducible apply Bd.mulW
          | with_reducible apply Bd.mul
          | with_reducible apply Bd.add
          | with_reducible apply Bd.sub
          | ((with_reducible apply Bd.l8); exact eq_true (by decide))
          | ((with_reducible apply Bd.lit); exact eq_true (by decide))
          | with_reducible apply Bd.neg
          | with_reducible apply Bd.div
          | with_reducible apply Bd.abs
          | with_reducible apply Bd.mod
          | with_reducible apply Bd.fdiv
          | ((with_reducible apply Bd.om); omega)
          | ((with_reducible apply R.isLe); first | decide | omega)
          | with_reducible apply R.un
          | with_reducible apply R.u1
          | with_reducible apply R.tup
          | with_reducible apply R.lst
          | with_reducible apply R.call
          | with_reducible apply R.callB
          | with_reducible apply R.gtup
          | with_reducible apply R.gnil
          | with_reducible apply R.seq
          | with_reducible apply R.asg
          | with_reducible apply R.ret
          | with_reducible apply R.brk
          | with_reducible apply R.cont
          | with_reducible apply R.next
          | with_reducible apply R.drop
          | with_reducible apply R.par
          | with_reducible apply R.par2
          | with_reducible apply R.ifs
          | with_reducible apply R.tif
          | with_reducible apply R.test
          | with_reducible apply R.tb'
          | with_reducible apply R.isbl
          | with_reducible apply R.cmp
          | with_reducible apply R.t2i
          | with_reducible apply R.intp
          | with_reducible apply R.and
          | with_reducible apply R.or
          | with_reducible apply R.not
          | with_reducible apply R.andV
          | with_reducible apply R.orV
          | with_reducible apply R.notV
          | with_reducible apply R.chain
          | with_reducible apply R.tupL
          | with_reducible apply R.lstL
          | with_reducible apply R.cat
          | with_reducible apply R.absI
          | with_reducible apply R.intI
          | with_reducible apply R.intB
          | with_reducible apply R.eqS
          | with_reducible apply R.eqBl
          | with_reducible apply R.neBl
          | with_reducible apply R.sl
          | with_reducible apply R.noPart
          | with_reducible apply R.part
          | with_reducible apply R.isInt
          | with_reducible apply R.slL
          | with_reducible apply R.isiT
          | with_reducible apply R.isiLst
          | with_reducible apply R.nwT
          | with_reducible apply R.nwL
          | ((with_reducible apply R.mt); intro HN tn sn nn ht)
          | ((with_reducible apply R.ml); intro HN tn sn nn ht)
          | ((with_reducible apply R.isiTupS); focus ((repeat' (first | with_reducible assumption | with_reducible apply hU | ((with_reducible apply SqT.of); with_reducible assumption) | ((with_reducible apply same_seqT); with_reducible assumption) | ((with_reducible apply kp_seqT); with_reducible assumption) | ((with_reducible apply Dw.same); with_reducible assumption))); done))
          | ((with_reducible apply R.ne4); focus ((repeat' (first | with_reducible assumption | with_reducible apply hU | ((with_reducible apply SqT.of); with_reducible assumption) | ((with_reducible apply same_seqT); with_reducible assumption) | ((with_reducible apply kp_seqT); with_reducible assumption) | ((with_reducible apply Dw.same); with_reducible assumption))); done))
          | ((with_reducible apply R.ne3); focus ((repeat' (first | with_reducible assumption | with_reducible apply hU | ((with_reducible apply SqT.of); with_reducible assumption) | ((with_reducible apply same_seqT); with_reducible assumption) | ((with_reducible apply kp_seqT); with_reducible assumption) | ((with_reducible apply Dw.same); with_reducible assumption))); done))
          | ((with_reducible apply R.ne2); focus ((repeat' (first | with_reducible assumption | with_reducible apply hU | ((with_reducible apply SqT.of); with_reducible assumption) | ((with_reducible apply same_seqT); with_reducible assumption) | ((with_reducible apply kp_seqT); with_reducible assumption) | ((with_reducible apply Dw.same); with_reducible assumption))); done))
          | ((with_reducible apply R.eq4); focus ((repeat' (first | with_reducible assumption | with_reducible apply hU | ((with_reducible apply SqT.of); with_reducible assumption) | ((with_reducible apply same_seqT); with_reducible assumption) | ((with_reducible apply kp_seqT); with_reducible assumption) | ((with_reducible apply Dw.same); with_reducible assumption))); done))
          | ((with_reducible apply R.eq3); focus ((repeat' (first | with_reducible assumption | with_reducible apply hU | ((with_reducible apply SqT.of); with_reducible assumption) | ((with_reducible apply same_seqT); with_reducible assumption) | ((with_reducible apply kp_seqT); with_reducible assumption) | ((with_reducible apply Dw.same); with_reducible assumption))); done))
          | ((with_reducible apply R.eq2); focus ((repeat' (first | with_reducible assumption | with_reducible apply hU | ((with_reducible apply SqT.of); with_reducible assumption) | ((with_reducible apply same_seqT); with_reducible assumption) | ((with_reducible apply kp_seqT); with_reducible assumption) | ((with_reducible apply Dw.same); with_reducible assumption))); done))
          | with_reducible apply uLawNext
          | with_reducible apply uLawWide
          | ((with_reducible apply R.nw); intro HN tn sn ht)
          | with_reducible apply iteT
          | with_reducible apply iteF
          | with_reducible apply R.notT
          | with_reducible apply R.notF
          | ((with_reducible apply SqT.of); with_reducible assumption)
          | ((with_reducible apply SqL.of); with_reducible assumption)
          | ((with_reducible apply same_seqT); with_reducible assumption)
          | ((with_reducible apply sameB); with_reducible assumption)
          | ((with_reducible apply same_at); with_reducible assumption)
          | ((with_reducible apply kp_seqT); with_reducible assumption)
          | ((with_reducible apply Same.seq); with_reducible assumption)
          | ((with_reducible apply Kp.seqL); with_reducible assumption)
          | ((with_reducible apply fresh_ne); with_reducible assumption)
          | ((with_reducible apply Dw.same); with_reducible assumption)
          | ((with_reducible apply R.isEq); exact eq_true (by first | decide | omega))
          | ((with_reducible apply R.isLt); first | decide | omega)
          | ((with_reducible apply R.isLtI); first | decide | omega)
          | ((with_reducible apply R.isLeI); first | decide | omega)
          | ((with_reducible apply R.cdiv); exact rfl)
          | ((with_reducible apply R.cpow); exact rfl)
          | with_reducible apply R.cdivX
          | ((with_reducible apply R.isNe); omega)
          | with_reducible apply hU
          | ((with_reducible apply wayNF); first | exact rfl | exact ⟨rfl, rfl⟩ | exact ⟨rfl, rfl, rfl⟩ | exact ⟨rfl, rfl, rfl, rfl⟩)
          | with_reducible apply R.forE
          | with_reducible apply R.rng1
          | with_reducible apply R.rng2
          | with_reducible apply R.rg1
          | with_reducible apply R.rg2
          | with_reducible apply R.lcE
          | with_reducible apply R.itup
          | with_reducible apply R.ilst
          )
        refine ⟨_, h1, ?_, ms ++ [1 + (i : Int)], ?_, ?_, ?_, ?_⟩
        · rw [List.length_map]
          exact small1000 (by omega)
        · rw [upd_same, List.map_append]
          rfl
        · rw [List.length_append]
          exact Nat.succ_le_succ h2
        · intro x hx
          rcases List.mem_append.mp hx with hx | hx
          · exact h3 x hx
          · rw [List.mem_singleton.mp hx]
            omega
        · exact same_mut h4 nD
      · exact ⟨ms, h1, by omega, h3, h4⟩
    have msl : ms.length ≤ 200 := by omega
    have d9 := d8.same h4
    repeat' (first
      | with_reducible apply R.var
      | ((with_reducible apply R.isEq); exact rfl)
      | with_reducible apply R.op
      | with_reducible apply R.i2
      | with_reducible apply R.i0
      | with_reducible apply R.con
      | with_reducible apply R.cons
      | with_reducible apply R.nil
      | with_reducible apply R.gcons
      | with_reducible apply R.gname
      | ((with_reducible apply R.ixT); (focus ((repeat' (first | with_reducible assumption | with_reducible apply hU | ((with_reducible apply SqT.of); with_reducible assumption) | ((with_reducible apply same_seqT); with_reducible assumption) | ((with_reducible apply kp_seqT); with_reducible assumption) | ((with_reducible apply Dw.same); with_reducible assumption))); done)); exact rfl)
      | ((with_reducible apply R.ixL); (focus ((repeat' (first | with_reducible assumption | ((with_reducible apply SqL.of); with_reducible assumption) | ((with_reducible apply Same.seq); with_reducible assumption) | ((with_reducible apply Kp.seqL); with_reducible assumption) | ((with_reducible apply fresh_ne); with_reducible assumption) | ((with_reducible apply Dw.same); with_reducible assumption))); done)); exact rfl)
      | with_reducible assumption
      | with_reducible apply Bd.mulW
      | with_reducible apply Bd.mul
      | with_reducible apply Bd.add
      | with_reducible apply Bd.sub
      | ((with_reducible apply Bd.l8); exact eq_true (by decide))
      | ((with_reducible apply Bd.lit); exact eq_true (by decide))
      | with_reducible apply Bd.neg
      | with_reducible apply Bd.div
      | with_reducible apply Bd.abs
      | with_reducible apply Bd.mod
      | with_reducible apply Bd.fdiv
      | ((with_reducible apply Bd.om); omega)
      | ((with_reducible apply R.isLe); first | decide | omega)
      | with_reducible apply R.un
      | with_reducible apply R.u1
      | with_reducible apply R.tup
      | with_reducible apply R.lst
      | with_reducible apply R.call
      | with_reducible apply R.callB
      | with_reducible apply R.gtup
      | with_reducible apply R.gnil
      | with_reducible apply R.seq
      | with_reducible apply R.asg
      | with_reducible apply R.ret
      | with_reducible apply R.brk
      | with_reducible apply R.cont
      | with_reducible apply R.next
      | with_reducible apply R.drop
      | with_reducible apply R.par
      | with_reducible apply R.par2
      | with_reducible apply R.ifs
      | with_reducible apply R.tif
      | with_reducible apply R.test
      | with_reducible apply R.tb'
      | with_reducible apply R.isbl
      | with_reducible apply R.cmp
      | with_reducible apply R.t2i
      | with_reducible apply R.intp
      | with_reducible apply R.and
      | with_reducible apply R.or
      | with_reducible apply R.not
      | with_reducible apply R.andV
      | with_reducible apply R.orV
      | with_reducible apply R.notV
      | with_reducible apply R.chain
      | with_reducible apply R.tupL
      | with_reducible apply R.lstL
      | with_reducible apply R.cat
      | with_reducible apply R.absI
      | with_reducible apply R.intI
      | with_reducible apply R.intB
      | with_reducible apply R.eqS
      | with_reducible apply R.eqBl
      | with_reducible apply R.neBl
      | with_reducible apply R.sl
      | with_reducible apply R.noPart
      | with_reducible apply R.part
      | with_reducible apply R.isInt
      | with_reducible apply R.slL
      | with_reducible apply R.isiT
      | with_reducible apply R.isiLst
      | with_reducible apply R.nwT
      | with_reducible apply R.nwL
      | ((with_reducible apply R.mt); intro HN tn sn nn ht)
      | ((with_reducible apply R.ml); intro HN tn sn nn ht)
      | ((with_reducible apply R.isiTupS); focus ((repeat' (first | with_reducible assumption | with_reducible apply hU | ((with_reducible apply SqT.of); with_reducible assumption) | ((with_reducible apply same_seqT); with_reducible assumption) | ((with_reducible apply kp_seqT); with_reducible assumption) | ((with_reducible apply Dw.same); with_reducible assumption))); done))
      | ((with_reducible apply R.ne4); focus ((repeat' (first | with_reducible assumption | with_reducible apply hU | ((with_reducible apply SqT.of); with_reducible assumption) | ((with_reducible apply same_seqT); with_reducible assumption) | ((with_reducible apply kp_seqT); with_reducible assumption) | ((with_reducible apply Dw.same); with_reducible assumption))); done))
      | ((with_reducible apply R.ne3); focus ((repeat' (first | with_reducible assumption | with_reducible apply hU | ((with_reducible apply SqT.of); with_reducible assumption) | ((with_reducible apply same_seqT); with_reducible assumption) | ((with_reducible apply kp_seqT); with_reducible assumption) | ((with_reducible apply Dw.same); with_reducible assumption))); done))
      | ((with_reducible apply R.ne2); focus ((repeat' (first | with_reducible assumption | with_reducible apply hU | ((with_reducible apply SqT.of); with_reducible assumption) | ((with_reducible apply same_seqT); with_reducible assumption) | ((with_reducible apply kp_seqT); with_reducible assumption) | ((with_reducible apply Dw.same); with_reducible assumption))); done))
      | ((with_reducible apply R.eq4); focus ((repeat' (first | with_reducible assumption | with_reducible apply hU | ((with_reducible apply SqT.of); with_reducible assumption) | ((with_reducible apply same_seqT); with_reducible assumption) | ((with_reducible apply kp_seqT); with_reducible assumption) | ((with_reducible apply Dw.same); with_reducible assumption))); done))
      | ((with_reducible apply R.eq3); focus ((repeat' (first | with_reducible assumption | with_reducible apply hU | ((with_reducible apply SqT.of); with_reducible assumption) | ((with_reducible apply same_seqT); with_reducible assumption) | ((with_reducible apply kp_seqT); with_reducible assumption) | ((with_reducible apply Dw.same); with_reducible assumption))); done))
      | ((with_reducible apply R.eq2); focus ((repeat' (first | with_reducible assumption | with_reducible apply hU | ((with_reducible apply SqT.of); with_reducible assumption) | ((with_reducible apply same_seqT); with_reducible assumption) | ((with_reducible apply kp_seqT); with_reducible assumption) | ((with_reducible apply Dw.same); with_reducible assumption))); done))
      | with_reducible apply uLawNext
      | with_reducible apply uLawWide
      | ((with_reducible apply R.nw); intro HN tn sn ht)
      | with_reducible apply iteT
      | with_reducible apply iteF
      | with_reducible apply R.notT
      | with_reducible apply R.notF
      | ((with_reducible apply SqT.of); with_reducible assumption)
      | ((with_reducible apply SqL.of); with_reducible assumption)
      | ((with_reducible apply same_seqT); with_reducible assumption)
      | ((with_reducible apply sameB); with_reducible assumption)
      | ((with_reducible apply same_at); with_reducible assumption)
      | ((with_reducible apply kp_seqT); with_reducible assumption)
      | ((with_reducible apply Same.seq); with_reducible assumption)
      | ((with_reducible apply Kp.seqL); with_reducible assumption)
      | ((with_reducible apply fresh_ne); with_reducible assumption)
      | ((with_reducible apply Dw.same); with_reducible assumption)
      | ((with_reducible apply R.isEq); exact eq_true (by first | decide | omega))
      | ((with_reducible apply R.isLt); first | decide | omega)
      | ((with_reducible apply R.isLtI); first | decide | omega)
      | ((with_reducible apply R.isLeI); first | decide | omega)
      | ((with_reducible apply R.cdiv); exact rfl)
      | ((with_reducible apply R.cpow); exact rfl)
      | with_reducible apply R.cdivX
      | ((with_reducible apply R.isNe); omega)
      | with_reducible apply hU
      | ((with_reducible apply wayNF); first | exact rfl | exact ⟨rfl, rfl⟩ | exact ⟨rfl, rfl, rfl⟩ | exact ⟨rfl, rfl, rfl, rfl⟩)
      | with_reducible apply R.forE
      | with_reducible apply R.rng1
      | with_reducible apply R.rng2
      | with_reducible apply R.rg1
      | with_reducible apply R.rg2
      | with_reducible apply R.lcE
      | with_reducible apply R.itup
      | with_reducible apply R.ilst
      )
    intro r7 H9 r7a r7b d10 k10
    repeat' (first
      | with_reducible apply R.var
      | ((with_reducible apply R.isEq); exact rfl)
      | with_reducible apply R.op
      | with_reducible apply R.i2
      | with_reducible apply R.i0
      | with_reducible apply R.con
      | with_reducible apply R.cons
      | with_reducible apply R.nil
      | with_reducible apply R.gcons
      | with_reducible apply R.gname
      | ((with_reducible apply R.ixT); (focus ((repeat' (first | with_reducible assumption | with_reducible apply hU | ((with_reducible apply SqT.of); with_reducible assumption) | ((with_reducible apply same_seqT); with_reducible assumption) | ((with_reducible apply kp_seqT); with_reducible assumption) | ((with_reducible apply Dw.same); with_reducible assumption))); done)); exact rfl)
      | ((with_reducible apply R.ixL); (focus ((repeat' (first | with_reducible assumption | ((with_reducible apply SqL.of); with_reducible assumption) | ((with_reducible apply Same.seq); with_reducible assumption) | ((with_reducible apply Kp.seqL); with_reducible assumption) | ((with_reducible apply fresh_ne); with_reducible assumption) | ((with_reducible apply Dw.same); with_reducible assumption))); done)); exact rfl)
      | with_reducible assumption
      | with_reducible apply Bd.mulW
      | with_reducible apply Bd.mul
      | with_reducible apply Bd.add
      | with_reducible apply Bd.sub
      | ((with_reducible apply Bd.l8); exact eq_true (by decide))
      | ((with_reducible apply Bd.lit); exact eq_true (by decide))
      | with_reducible apply Bd.neg
      | with_reducible apply Bd.div
      | with_reducible apply Bd.abs
      | with_reducible apply Bd.mod
      | with_reducible apply Bd.fdiv
      | ((with_reducible apply Bd.om); omega)
      | ((with_reducible apply R.isLe); first | decide | omega)
      | with_reducible apply R.un
      | with_reducible apply R.u1
      | with_reducible apply R.tup
      | with_reducible apply R.lst
      | with_reducible apply R.call
      | with_reducible apply R.callB
      | with_reducible apply R.gtup
      | with_reducible apply R.gnil
      | with_reducible apply R.seq
      | with_reducible apply R.asg
      | with_reducible apply R.ret
      | with_reducible apply R.brk
      | with_reducible apply R.cont
      | with_reducible apply R.next
      | with_reducible apply R.drop
      | with_reducible apply R.par
      | with_reducible apply R.par2
      | with_reducible apply R.ifs
      | with_reducible apply R.tif
      | with_reducible apply R.test
      | with_reducible apply R.tb'
      | with_reducible apply R.isbl
      | with_reducible apply R.cmp
      | with_reducible apply R.t2i
      | with_reducible apply R.intp
      | with_reducible apply R.and
      | with_reducible apply R.or
      | with_reducible apply R.not
      | with_reducible apply R.andV
      | with_reducible apply R.orV
      | with_reducible apply R.notV
      | with_reducible apply R.chain
      | with_reducible apply R.tupL
      | with_reducible apply R.lstL
      | with_reducible apply R.cat
      | with_reducible apply R.absI
      | with_reducible apply R.intI
      | with_reducible apply R.intB
      | with_reducible apply R.eqS
      | with_reducible apply R.eqBl
      | with_reducible apply R.neBl
      | with_reducible apply R.sl
      | with_reducible apply R.noPart
      | with_reducible apply R.part
      | with_reducible apply R.isInt
      | with_reducible apply R.slL
      | with_reducible apply R.isiT
      | with_reducible apply R.isiLst
      | with_reducible apply R.nwT
      | with_reducible apply R.nwL
      | ((with_reducible apply R.mt); intro HN tn sn nn ht)
      | ((with_reducible apply R.ml); intro HN tn sn nn ht)
      | ((with_reducible apply R.isiTupS); focus ((repeat' (first | with_reducible assumption | with_reducible apply hU | ((with_reducible apply SqT.of); with_reducible assumption) | ((with_reducible apply same_seqT); with_reducible assumption) | ((with_reducible apply kp_seqT); with_reducible assumption) | ((with_reducible apply Dw.same); with_reducible assumption))); done))
      | ((with_reducible apply R.ne4); focus ((repeat' (first | with_reducible assumption | with_reducible apply hU | ((with_reducible apply SqT.of); with_reducible assumption) | ((with_reducible apply same_seqT); with_reducible assumption) | ((with_reducible apply kp_seqT); with_reducible assumption) | ((with_reducible apply Dw.same); with_reducible assumption))); done))
      | ((with_reducible apply R.ne3); focus ((repeat' (first | with_reducible assumption | with_reducible apply hU | ((with_reducible apply SqT.of); with_reducible assumption) | ((with_reducible apply same_seqT); with_reducible assumption) | ((with_reducible apply kp_seqT); with_reducible assumption) | ((with_reducible apply Dw.same); with_reducible assumption))); done))
      | ((with_reducible apply R.ne2); focus ((repeat' (first | with_reducible assumption | with_reducible apply hU | ((with_reducible apply SqT.of); with_reducible assumption) | ((with_reducible apply same_seqT); with_reducible assumption) | ((with_reducible apply kp_seqT); with_reducible assumption) | ((with_reducible apply Dw.same); with_reducible assumption))); done))
      | ((with_reducible apply R.eq4); focus ((repeat' (first | with_reducible assumption | with_reducible apply hU | ((with_reducible apply SqT.of); with_reducible assumption) | ((with_reducible apply same_seqT); with_reducible assumption) | ((with_reducible apply kp_seqT); with_reducible assumption) | ((with_reducible apply Dw.same); with_reducible assumption))); done))
      | ((with_reducible apply R.eq3); focus ((repeat' (first | with_reducible assumption | with_reducible apply hU | ((with_reducible apply SqT.of); with_reducible assumption) | ((with_reducible apply same_seqT); with_reducible assumption) | ((with_reducible apply kp_seqT); with_reducible assumption) | ((with_reducible apply Dw.same); with_reducible assumption))); done))
      | ((with_reducible apply R.eq2); focus ((repeat' (first | with_reducible assumption | with_reducible apply hU | ((with_reducible apply SqT.of); with_reducible assumption) | ((with_reducible apply same_seqT); with_reducible assumption) | ((with_reducible apply kp_seqT); with_reducible assumption) | ((with_reducible apply Dw.same); with_reducible assumption))); done))
      | with_reducible apply uLawNext
      | with_reducible apply uLawWide
      | ((with_reducible apply R.nw); intro HN tn sn ht)
      | with_reducible apply iteT
      | with_reducible apply iteF
      | with_reducible apply R.notT
      | with_reducible apply R.notF
      | ((with_reducible apply SqT.of); with_reducible assumption)
      | ((with_reducible apply SqL.of); with_reducible assumption)
      | ((with_reducible apply same_seqT); with_reducible assumption)
      | ((with_reducible apply sameB); with_reducible assumption)
      | ((with_reducible apply same_at); with_reducible assumption)
      | ((with_reducible apply kp_seqT); with_reducible assumption)
      | ((with_reducible apply Same.seq); with_reducible assumption)
      | ((with_reducible apply Kp.seqL); with_reducible assumption)
      | ((with_reducible apply fresh_ne); with_reducible assumption)
      | ((with_reducible apply Dw.same); with_reducible assumption)
      | ((with_reducible apply R.isEq); exact eq_true (by first | decide | omega))
      | ((with_reducible apply R.isLt); first | decide | omega)
      | ((with_reducible apply R.isLtI); first | decide | omega)
      | ((with_reducible apply R.isLeI); first | decide | omega)
      | ((with_reducible apply R.cdiv); exact rfl)
      | ((with_reducible apply R.cpow); exact rfl)
      | with_reducible apply R.cdivX
      | ((with_reducible apply R.isNe); omega)
      | with_reducible apply hU
      | ((with_reducible apply wayNF); first | exact rfl | exact ⟨rfl, rfl⟩ | exact ⟨rfl, rfl, rfl⟩ | exact ⟨rfl, rfl, rfl, rfl⟩)
      | with_reducible apply R.forE
      | with_reducible apply R.rng1
      | with_reducible apply R.rng2
      | with_reducible apply R.rg1
      | with_reducible apply R.rg2
      | with_reducible apply R.lcE
      | with_reducible apply R.itup
      | with_reducible apply R.ilst
      )
    obtain ⟨sv, hsv, esv⟩ : ∃ v : Int, (v = -1 ∨ v = 1) ∧ atI [V.int (-1), V.int 1] r7 = some (.int v) := by
      obtain rfl | rfl : r7 = 0 ∨ r7 = 1 := by omega
      · exact ⟨-1, .inl rfl, rfl⟩
      · exact ⟨1, .inr rfl, rfl⟩
    refine R.ixL (xs := [V.int (-1), V.int 1]) (by (repeat' (first | with_reducible assumption | ((with_reducible apply SqL.of); with_reducible assumption) | ((with_reducible apply Same.seq); with_reducible assumption) | ((with_reducible apply Kp.seqL); with_reducible assumption) | ((with_reducible apply fresh_ne); with_reducible assumption) | ((with_reducible apply Dw.same); with_reducible assumption)))) esv ?_
    repeat' (first
      | with_reducible apply R.var
      | ((with_reducible apply R.isEq); exact rfl)
      | with_reducible apply R.op
      | with_reducible apply R.i2
      | with_reducible apply R.i0
      | with_reducible apply R.con
      | with_reducible apply R.cons
      | with_reducible apply R.nil
      | with_reducible apply R.gcons
      | with_reducible apply R.gname
      | ((with_reducible apply R.ixT); (focus ((repeat' (first | with_reducible assumption | with_reducible apply hU | ((with_reducible apply SqT.of); with_reducible assumption) | ((with_reducible apply same_seqT); with_reducible assumption) | ((with_reducible apply kp_seqT); with_reducible assumption) | ((with_reducible apply Dw.same); with_reducible assumption))); done)); exact rfl)
      | ((with_reducible apply R.ixL); (focus ((repeat' (first | with_reducible assumption | ((with_reducible apply SqL.of); with_reducible assumption) | ((with_reducible apply Same.seq); with_reducible assumption) | ((with_reducible apply Kp.seqL); with_reducible assumption) | ((with_reducible apply fresh_ne); with_reducible assumption) | ((with_reducible apply Dw.same); with_reducible assumption))); done)); exact rfl)
      | with_reducible assumption
      | with_reducible apply Bd.mulW
      | with_reducible apply Bd.mul
      | with_reducible apply Bd.add
      | with_reducible apply Bd.sub
      | ((with_reducible apply Bd.l8); exact eq_true (by decide))
      | ((with_reducible apply Bd.lit); exact eq_true (by decide))
      | with_reducible apply Bd.neg
      | with_reducible apply Bd.div
      | with_reducible apply Bd.abs
      | with_reducible apply Bd.mod
      | with_reducible apply Bd.fdiv
      | ((with_reducible apply Bd.om); omega)
      | ((with_reducible apply R.isLe); first | decide | omega)
      | with_reducible apply R.un
      | with_reducible apply R.u1
      | with_reducible apply R.tup
      | with_reducible apply R.lst
      | with_reducible apply R.call
      | with_reducible apply R.callB
      | with_reducible apply R.gtup
      | with_reducible apply R.gnil
      | with_reducible apply R.seq
      | with_reducible apply R.asg
      | with_reducible apply R.ret
      | with_reducible apply R.brk
      | with_reducible apply R.cont
      | with_reducible apply R.next
      | with_reducible apply R.drop
      | with_reducible apply R.par
      | with_reducible apply R.par2
      | with_reducible apply R.ifs
      | with_reducible apply R.tif
      | with_reducible apply R.test
      | with_reducible apply R.tb'
      | with_reducible apply R.isbl
      | with_reducible apply R.cmp
      | with_reducible apply R.t2i
      | with_reducible apply R.intp
      | with_reducible apply R.and
      | with_reducible apply R.or
      | with_reducible apply R.not
      | with_reducible apply R.andV
      | with_reducible apply R.orV
      | with_reducible apply R.notV
      | with_reducible apply R.chain
      | with_reducible apply R.tupL
      | with_reducible apply R.lstL
      | with_reducible apply R.cat
      | with_reducible apply R.absI
      | with_reducible apply R.intI
      | with_reducible apply R.intB
      | with_reducible apply R.eqS
      | with_reducible apply R.eqBl
      | with_reducible apply R.neBl
      | with_reducible apply R.sl
      | with_reducible apply R.noPart
      | with_reducible apply R.part
      | with_reducible apply R.isInt
      | with_reducible apply R.slL
      | with_reducible apply R.isiT
      | with_reducible apply R.isiLst
      | with_reducible apply R.nwT
      | with_reducible apply R.nwL
      | ((with_reducible apply R.mt); intro HN tn sn nn ht)
      | ((with_reducible apply R.ml); intro HN tn sn nn ht)
      | ((with_reducible apply R.isiTupS); focus ((repeat' (first | with_reducible assumption | with_reducible apply hU | ((with_reducible apply SqT.of); with_reducible assumption) | ((with_reducible apply same_seqT); with_reducible assumption) | ((with_reducible apply kp_seqT); with_reducible assumption) | ((with_reducible apply Dw.same); with_reducible assumption))); done))
      | ((with_reducible apply R.ne4); focus ((repeat' (first | with_reducible assumption | with_reducible apply hU | ((with_reducible apply SqT.of); with_reducible assumption) | ((with_reducible apply same_seqT); with_reducible assumption) | ((with_reducible apply kp_seqT); with_reducible assumption) | ((with_reducible apply Dw.same); with_reducible assumption))); done))
      | ((with_reducible apply R.ne3); focus ((repeat' (first | with_reducible assumption | with_reducible apply hU | ((with_reducible apply SqT.of); with_reducible assumption) | ((with_reducible apply same_seqT); with_reducible assumption) | ((with_reducible apply kp_seqT); with_reducible assumption) | ((with_reducible apply Dw.same); with_reducible assumption))); done))
      | ((with_reducible apply R.ne2); focus ((repeat' (first | with_reducible assumption | with_reducible apply hU | ((with_reducible apply SqT.of); with_reducible assumption) | ((with_reducible apply same_seqT); with_reducible assumption) | ((with_reducible apply kp_seqT); with_reducible assumption) | ((with_reducible apply Dw.same); with_reducible assumption))); done))
      | ((with_reducible apply R.eq4); focus ((repeat' (first | with_reducible assumption | with_reducible apply hU | ((with_reducible apply SqT.of); with_reducible assumption) | ((with_reducible apply same_seqT); with_reducible assumption) | ((with_reducible apply kp_seqT); with_reducible assumption) | ((with_reducible apply Dw.same); with_reducible assumption))); done))
      | ((with_reducible apply R.eq3); focus ((repeat' (first | with_reducible assumption | with_reducible apply hU | ((with_reducible apply SqT.of); with_reducible assumption) | ((with_reducible apply same_seqT); with_reducible assumption) | ((with_reducible apply kp_seqT); with_reducible assumption) | ((with_reducible apply Dw.same); with_reducible assumption))); done))
      | ((with_reducible apply R.eq2); focus ((repeat' (first | with_reducible assumption | with_reducible apply hU | ((with_reducible apply SqT.of); with_reducible assumption) | ((with_reducible apply same_seqT); with_reducible assumption) | ((with_reducible apply kp_seqT); with_reducible assumption) | ((with_reducible apply Dw.same); with_reducible assumption))); done))
      | with_reducible apply uLawNext
      | with_reducible apply uLawWide
      | ((with_reducible apply R.nw); intro HN tn sn ht)
      | with_reducible apply iteT
      | with_reducible apply iteF
      | with_reducible apply R.notT
      | with_reducible apply R.notF
      | ((with_reducible apply SqT.of); with_reducible assumption)
      | ((with_reducible apply SqL.of); with_reducible assumption)
      | ((with_reducible apply same_seqT); with_reducible assumption)
      | ((with_reducible apply sameB); with_reducible assumption)
      | ((with_reducible apply same_at); with_reducible assumption)
      | ((with_reducible apply kp_seqT); with_reducible assumption)
      | ((with_reducible apply Same.seq); with_reducible assumption)
      | ((with_reducible apply Kp.seqL); with_reducible assumption)
      | ((with_reducible apply fresh_ne); with_reducible assumption)
      | ((with_reducible apply Dw.same); with_reducible assumption)
      | ((with_reducible apply R.isEq); exact eq_true (by first | decide | omega))
      | ((with_reducible apply R.isLt); first | decide | omega)
      | ((with_reducible apply R.isLtI); first | decide | omega)
      | ((with_reducible apply R.isLeI); first | decide | omega)
      | ((with_reducible apply R.cdiv); exact rfl)
      | ((with_reducible apply R.cpow); exact rfl)
      | with_reducible apply R.cdivX
      | ((with_reducible apply R.isNe); omega)
      | with_reducible apply hU
      | ((with_reducible apply wayNF); first | exact rfl | exact ⟨rfl, rfl⟩ | exact ⟨rfl, rfl, rfl⟩ | exact ⟨rfl, rfl, rfl, rfl⟩)
      | with_reducible apply R.forE
      | with_reducible apply R.rng1
      | with_reducible apply R.rng2
      | with_reducible apply R.rg1
      | with_reducible apply R.rg2
      | with_reducible apply R.lcE
      | with_reducible apply R.itup
      | with_reducible apply R.ilst
      )
    have d11 : Dw _ p a _ := d10
    generalize hsq : decide (root * root = d) = sq
    refine R.cut (Mid := fun σ H' => ∃ (x6 x8 : Option V) (q : Int) (N : Nat), σ = [some (.ref l), some (.ref p), some (.int d), some (.int pv), some (.int root), some (.bl sq), x6, some (.int q), x8, none, none, none, none, none, none, none, none, none] ∧ q.natAbs ≤ 200 ∧ N ≤ 200 ∧ Dw H' p a N) ?_ (fun σ H10 hMid => ?_)
    · skip
      repeat' (first
        | with_reducible apply R.var
        | ((with_reducible apply R.isEq); exact rfl)
        | with_reducible apply R.op
        | with_reducible apply R.i2
        | with_reducible apply R.i0
        | with_reducible apply R.con
        | with_reducible apply R.cons
        | with_reducible apply R.nil
        | with_reducible apply R.gcons
        | with_reducible apply R.gname
        | ((with_reducible apply R.ixT); (focus ((repeat' (first | with_reducible assumption | with_reducible apply hU | ((with_reducible apply SqT.of); with_reducible assumption) | ((with_reducible apply same_seqT); with_reducible assumption) | ((with_reducible apply kp_seqT); with_reducible assumption) | ((with_reducible apply Dw.same); with_reducible assumption))); done)); exact rfl)
        | ((with_reducible apply R.ixL); (focus ((repeat' (first | with_reducible assumption | ((with_reducible apply SqL.of); with_reducible assumption) | ((with_reducible apply Same.seq); with_reducible assumption) | ((with_reducible apply Kp.seqL); with_reducible assumption) | ((with_reducible apply fresh_ne); with_reducible assumption) | ((with_reducible apply Dw.same); with_reducible assumption))); done)); exact rfl)
        | with_reducible assumption
        | with_reducible apply Bd.mulW
        | with_reducible apply Bd.mul
        | with_reducible apply Bd.add
        | with_reducible apply Bd.sub
        | ((with_reducible apply Bd.l8); exact eq_true (by decide))
        | ((with_reducible apply Bd.lit); exact eq_true (by decide))
        | with_reducible apply Bd.neg
        | with_reducible apply Bd.div
        | with_reducible apply Bd.abs
        | with_reducible apply Bd.mod
        | with_reducible apply Bd.fdiv
        | ((with_reducible apply Bd.om); omega)
        | ((with_reducible apply R.isLe); first | decide | omega)
        | with_reducible apply R.un
        | with_reducible apply R.u1
        | with_reducible apply R.tup
        | with_reducible apply R.lst
        | with_reducible apply R.call
        | with_reducible apply R.callB
        | with_reducible apply R.gtup
        | with_reducible apply R.gnil
        | with_reducible apply R.seq
        | with_reducible apply R.asg
        | with_reducible apply R.ret
        | with_reducible apply R.brk
        | with_reducible apply R.cont
        | with_reducible apply R.next
        | with_reducible apply R.drop
        | with_reducible apply R.par
        | with_reducible apply R.par2
        | with_reducible apply R.ifs
        | with_reducible apply R.tif
        | with_reducible apply R.test
        | with_reducible apply R.tb'
        | with_reducible apply R.isbl
        | with_reducible apply R.cmp
        | with_reducible apply R.t2i
        | with_reducible apply R.intp
        | with_reducible apply R.and
        | with_reducible apply R.or
        | with_reducible apply R.not
        | with_reducible apply R.andV
        | with_reducible apply R.orV
        | with_reducible apply R.notV
        | with_reducible apply R.chain
        | with_reducible apply R.tupL
        | with_reducible apply R.lstL
        | with_reducible apply R.cat
        | with_reducible apply R.absI
        | with_reducible apply R.intI
        | with_reducible apply R.intB
        | with_reducible apply R.eqS
        | with_reducible apply R.eqBl
        | with_reducible apply R.neBl
        | with_reducible apply R.sl
        | with_reducible apply R.noPart
        | with_reducible apply R.part
        | with_reducible apply R.isInt
        | with_reducible apply R.slL
        | with_reducible apply R.isiT
        | with_reducible apply R.isiLst
        | with_reducible apply R.nwT
        | with_reducible apply R.nwL
        | ((with_reducible apply R.mt); intro HN tn sn nn ht)
        | ((with_reducible apply R.ml); intro HN tn sn nn ht)
        | ((with_reducible apply R.isiTupS); focus ((repeat' (first | with_reducible assumption | with_reducible apply hU | ((with_reducible apply SqT.of); with_reducible assumption) | ((with_reducible apply same_seqT); with_reducible assumption) | ((with_reducible apply kp_seqT); with_reducible assumption) | ((with_reducible apply Dw.same); with_reducible assumption))); done))
        | ((with_reducible apply R.ne4); focus ((repeat' (first | with_reducible assumption | with_reducible apply hU | ((with_reducible apply SqT.of); with_reducible assumption) | ((with_reducible apply same_seqT); with_reducible assumption) | ((with_reducible apply kp_seqT); with_reducible assumption) | ((with_reducible apply Dw.same); with_reducible assumption))); done))
        | ((with_reducible apply R.ne3); focus ((repeat' (first | with_reducible assumption | with_reducible apply hU | ((with_reducible apply SqT.of); with_reducible assumption) | ((with_reducible apply same_seqT); with_reducible assumption) | ((with_reducible apply kp_seqT); with_reducible assumption) | ((with_reducible apply Dw.same); with_reducible assumption))); done))
        | ((with_reducible apply R.ne2); focus ((repeat' (first | with_reducible assumption | with_reducible apply hU | ((with_reducible apply SqT.of); with_reducible assumption) | ((with_reducible apply same_seqT); with_reducible assumption) | ((with_reducible apply kp_seqT); with_reducible assumption) | ((with_reducible apply Dw.same); with_reducible assumption))); done))
        | ((with_reducible apply R.eq4); focus ((repeat' (first | with_reducible assumption | with_reducible apply hU | ((with_reducible apply SqT.of); with_reducible assumption) | ((with_reducible apply same_seqT); with_reducible assumption) | ((with_reducible apply kp_seqT); with_reducible assumption) | ((with_reducible apply Dw.same); with_reducible assumption))); done))
        | ((with_reducible apply R.eq3); focus ((repeat' (first | with_reducible assumption | with_reducible apply hU | ((with_reducible apply SqT.of); with_reducible assumption) | ((with_reducible apply same_seqT); with_reducible assumption) | ((with_reducible apply kp_seqT); with_reducible assumption) | ((with_reducible apply Dw.same); with_reducible assumption))); done))
        | ((with_reducible apply R.eq2); focus ((repeat' (first | with_reducible assumption | with_reducible apply hU | ((with_reducible apply SqT.of); with_reducible assumption) | ((with_reducible apply same_seqT); with_reducible assumption) | ((with_reducible apply kp_seqT); with_reducible assumption) | ((with_reducible apply Dw.same); with_reducible assumption))); done))
        | with_reducible apply uLawNext
        | with_reducible apply uLawWide
        | ((with_reducible apply R.nw); intro HN tn sn ht)
        | with_reducible apply iteT
        | with_reducible apply iteF
        | with_reducible apply R.notT
        | with_reducible apply R.notF
        | ((with_reducible apply SqT.of); with_reducible assumption)
        | ((with_reducible apply SqL.of); with_reducible assumption)
        | ((with_reducible apply same_seqT); with_reducible assumption)
        | ((with_reducible apply sameB); with_reducible assumption)
        | ((with_reducible apply same_at); with_reducible assumption)
        | ((with_reducible apply kp_seqT); with_reducible assumption)
        | ((with_reducible apply Same.seq); with_reducible assumption)
        | ((with_reducible apply Kp.seqL); with_reducible assumption)
        | ((with_reducible apply fresh_ne); with_reducible assumption)
        | ((with_reducible apply Dw.same); with_reducible assumption)
        | ((with_reducible apply R.isEq); exact eq_true (by first | decide | omega))
        | ((with_reducible apply R.isLt); first | decide | omega)
        | ((with_reducible apply R.isLtI); first | decide | omega)
        | ((with_reducible apply R.isLeI); first | decide | omega)
        | ((with_reducible apply R.cdiv); exact rfl)
        | ((with_reducible apply R.cpow); exact rfl)
        | with_reducible apply R.cdivX
        | ((with_reducible apply R.isNe); omega)
        | with_reducible apply hU
        | ((with_reducible apply wayNF); first | exact rfl | exact ⟨rfl, rfl⟩ | exact ⟨rfl, rfl, rfl⟩ | exact ⟨rfl, rfl, rfl, rfl⟩)
        | with_reducible apply R.forE
        | with_reducible apply R.rng1
        | with_reducible apply R.rng2
        | with_reducible apply R.rg1
        | with_reducible apply R.rg2
        | with_reducible apply R.lcE
        | with_reducible apply R.itup
        | with_reducible apply R.ilst
        )
      have hDN : SqL K HN D (ms.map V.int) := by (repeat' (first | with_reducible assumption | ((with_reducible apply SqL.of); with_reducible assumption) | ((with_reducible apply Same.seq); with_reducible assumption) | ((with_reducible apply Kp.seqL); with_reducible assumption) | ((with_reducible apply fresh_ne); with_reducible assumption) | ((with_reducible apply Dw.same); with_reducible assumption)))
      refine ⟨_, _, .lst hDN (dp_ints ms), .lst (SqL.of ht) .nil, shaped_ints ms, by decide, ?_⟩
      have ee : PyData.eqv (.list (ms.map PyData.int)) (.list []) = ms.isEmpty := by
        cases ms with
        | nil => simp [PyData.eqv, PyData.eqvAll]
        | cons m ms => simp [PyData.eqv, PyData.eqvAll]
      rw [ee]
      cases ms with
      | nil =>
        repeat' (first
          | with_reducible apply R.var
          | ((with_reducible apply R.isEq); exact rfl)
          | with_reducible apply R.op
          | with_reducible apply R.i2
          | with_reducible apply R.i0
          | with_reducible apply R.con
          | with_reducible apply R.cons
          | with_reducible apply R.nil
          | with_reducible apply R.gcons
          | with_reducible apply R.gname
          | ((with_reducible apply R.ixT); (focus ((repeat' (first | with_reducible assumption | with_reducible apply hU | ((with_reducible apply SqT.of); with_reducible assumption) | ((with_reducible apply same_seqT); with_reducible assumption) | ((with_reducible apply kp_seqT); with_reducible assumption) | ((with_reducible apply Dw.same); with_reducible assumption))); done)); exact rfl)
          | ((with_reducible apply R.ixL); (focus ((repeat' (first | with_reducible assumption | ((with_reducible apply SqL.of); with_reducible assumption) | ((with_reducible apply Same.seq); with_reducible assumption) | ((with_reducible apply Kp.seqL); with_reducible assumption) | ((with_reducible apply fresh_ne); with_reducible assumption) | ((with_reducible apply Dw.same); with_reducible assumption))); done)); exact rfl)
          | with_reducible assumption
          | with_reducible apply Bd.mulW
          | with_reducible apply Bd.mul
          | with_reducible apply Bd.add
          | with_reducible apply Bd.sub
          | ((with_reducible apply Bd.l8); exact eq_true (by decide))
          | ((with_reducible apply Bd.lit); exact eq_true (by decide))
          | with_reducible apply Bd.neg
          | with_reducible apply Bd.div
          | with_reducible apply Bd.abs
          | with_reducible apply Bd.mod
          | with_reducible apply Bd.fdiv
          | ((with_reducible apply Bd.om); omega)
          | ((with_reducible apply R.isLe); first | decide | omega)
          | with_reducible apply R.un
          | with_reducible apply R.u1
          | with_reducible apply R.tup
          | with_reducible apply R.lst
          | with_reducible apply R.call
          | with_reducible apply R.callB
          | with_reducible apply R.gtup
          | with_reducible apply R.gnil
          | with_reducible apply R.seq
          | with_reducible apply R.asg
          | with_reducible apply R.ret
          | with_reducible apply R.brk
          | with_reducible apply R.cont
          | with_reducible apply R.next
          | with_reducible apply R.drop
          | with_reducible apply R.par
          | with_reducible apply R.par2
          | with_reducible apply R.ifs
          | with_reducible apply R.tif
          | with_reducible apply R.test
          | with_reducible apply R.tb'
          | with_reducible apply R.isbl
          | with_reducible apply R.cmp
          | with_reducible apply R.t2i
          | with_reducible apply R.intp
          | with_reducible apply R.and
          | with_reducible apply R.or
          | with_reducible apply R.not
          | with_reducible apply R.andV
          | with_reducible apply R.orV
          | with_reducible apply R.notV
          | with_reducible apply R.chain
          | with_reducible apply R.tupL
          | with_reducible apply R.lstL
          | with_reducible apply R.cat
          | with_reducible apply R.absI
          | with_reducible apply R.intI
          | with_reducible apply R.intB
          | with_reducible apply R.eqS
          | with_reducible apply R.eqBl
          | with_reducible apply R.neBl
          | with_reducible apply R.sl
          | with_reducible apply R.noPart
          | with_reducible apply R.part
          | with_reducible apply R.isInt
          | with_reducible apply R.slL
          | with_reducible apply R.isiT
          | with_reducible apply R.isiLst
          | with_reducible apply R.nwT
          | with_reducible apply R.nwL
          | ((with_reducible apply R.mt); intro HN tn sn nn ht)
          | ((with_reducible apply R.ml); intro HN tn sn nn ht)
          | ((with_reducible apply R.isiTupS); focus ((repeat' (first | with_reducible assumption | with_reducible apply hU | ((with_reducible apply SqT.of); with_reducible assumption) | ((with_reducible apply same_seqT); with_reducible assumption) | ((with_reducible apply kp_seqT); with_reducible assumption) | ((with_reducible apply Dw.same); with_reducible assumption))); done))
          | ((with_reducible apply R.ne4); focus ((repeat' (first | with_reducible assumption | with_reducible apply hU | ((with_reducible apply SqT.of); with_reducible assumption) | ((with_reducible apply same_seqT); with_reducible assumption) | ((with_reducible apply kp_seqT); with_reducible assumption) | ((with_reducible apply Dw.same); with_reducible assumption))); done))
          | ((with_reducible apply R.ne3); focus ((repeat' (first | with_reducible assumption | with_reducible apply hU | ((with_reducible apply SqT.of); with_reducible assumption) | ((with_reducible apply same_seqT); with_reducible assumption) | ((with_reducible apply kp_seqT); with_reducible assumption) | ((with_reducible apply Dw.same); with_reducible assumption))); done))
          | ((with_reducible apply R.ne2); focus ((repeat' (first | with_reducible assumption | with_reducible apply hU | ((with_reducible apply SqT.of); with_reducible assumption) | ((with_reducible apply same_seqT); with_reducible assumption) | ((with_reducible apply kp_seqT); with_reducible assumption) | ((with_reducible apply Dw.same); with_reducible assumption))); done))
          | ((with_reducible apply R.eq4); focus ((repeat' (first | with_reducible assumption | with_reducible apply hU | ((with_reducible apply SqT.of); with_reducible assumption) | ((with_reducible apply same_seqT); with_reducible assumption) | ((with_reducible apply kp_seqT); with_reducible assumption) | ((with_reducible apply Dw.same); with_reducible assumption))); done))
          | ((with_reducible apply R.eq3); focus ((repeat' (first | with_reducible assumption | with_reducible apply hU | ((with_reducible apply SqT.of); with_reducible assumption) | ((with_reducible apply same_seqT); with_reducible assumption) | ((with_reducible apply kp_seqT); with_reducible assumption) | ((with_reducible apply Dw.same); with_reducible assumption))); done))
          | ((with_reducible apply R.eq2); focus ((repeat' (first | with_reducible assumption | with_reducible apply hU | ((with_reducible apply SqT.of); with_reducible assumption) | ((with_reducible apply same_seqT); with_reducible assumption) | ((with_reducible apply kp_seqT); with_reducible assumption) | ((with_reducible apply Dw.same); with_reducible assumption))); done))
          | with_reducible apply uLawNext
          | with_reducible apply uLawWide
          | ((with_reducible apply R.nw); intro HN tn sn ht)
          | with_reducible apply iteT
          | with_reducible apply iteF
          | with_reducible apply R.notT
          | with_reducible apply R.notF
          | ((with_reducible apply SqT.of); with_reducible assumption)
          | ((with_reducible apply SqL.of); with_reducible assumption)
          | ((with_reducible apply same_seqT); with_reducible assumption)
          | ((with_reducible apply sameB); with_reducible assumption)
          | ((with_reducible apply same_at); with_reducible assumption)
          | ((with_reducible apply kp_seqT); with_reducible assumption)
          | ((with_reducible apply Same.seq); with_reducible assumption)
          | ((with_reducible apply Kp.seqL); with_reducible assumption)
          | ((with_reducible apply fresh_ne); with_reducible assumption)
          | ((with_reducible apply Dw.same); with_reducible assumption)
          | ((with_reducible apply R.isEq); exact eq_true (by first | decide | omega))
          | ((with_reducible apply R.isLt); first | decide | omega)
          | ((with_reducible apply R.isLtI); first | decide | omega)
          | ((with_reducible apply R.isLeI); first | decide | omega)
          | ((with_reducible apply R.cdiv); exact rfl)
          | ((with_reducible apply R.cpow); exact rfl)
          | with_reducible apply R.cdivX
          | ((with_reducible apply R.isNe); omega)
          | with_reducible apply hU
          | ((with_reducible apply wayNF); first | exact rfl | exact ⟨rfl, rfl⟩ | exact ⟨rfl, rfl, rfl⟩ | exact ⟨rfl, rfl, rfl, rfl⟩)
          | with_reducible apply R.forE
          | with_reducible apply R.rng1
          | with_reducible apply R.rng2
          | with_reducible apply R.rg1
          | with_reducible apply R.rg2
          | with_reducible apply R.lcE
          | with_reducible apply R.itup
          | with_reducible apply R.ilst
          )
        refine iteF ?_
        repeat' (first
          | with_reducible apply R.var
          | ((with_reducible apply R.isEq); exact rfl)
          | with_reducible apply R.op
          | with_reducible apply R.i2
          | with_reducible apply R.i0
          | with_reducible apply R.con
          | with_reducible apply R.cons
          | with_reducible apply R.nil
          | with_reducible apply R.gcons
          | with_reducible apply R.gname
          | ((with_reducible apply R.ixT); (focus ((repeat' (first | with_reducible assumption | with_reducible apply hU | ((with_reducible apply SqT.of); with_reducible assumption) | ((with_reducible apply same_seqT); with_reducible assumption) | ((with_reducible apply kp_seqT); with_reducible assumption) | ((with_reducible apply Dw.same); with_reducible assumption))); done)); exact rfl)
          | ((with_reducible apply R.ixL); (focus ((repeat' (first | with_reducible assumption | ((with_reducible apply SqL.of); with_reducible assumption) | ((with_reducible apply Same.seq); with_reducible assumption) | ((with_reducible apply Kp.seqL); with_reducible assumption) | ((with_reducible apply fresh_ne); with_reducible assumption) | ((with_reducible apply Dw.same); with_reducible assumption))); done)); exact rfl)
          | with_reducible assumption
          | with_reducible apply Bd.mulW
          | with_reducible apply Bd.mul
          | with_reducible apply Bd.add
          | with_reducible apply Bd.sub
          | ((with_reducible apply Bd.l8); exact eq_true (by decide))
          | ((with_reducible apply Bd.lit); exact eq_true (by decide))
          | with_reducible apply Bd.neg
          | with_reducible apply Bd.div
          | with_reducible apply Bd.abs
          | with_reducible apply Bd.mod
          | with_reducible apply Bd.fdiv
          | ((with_reducible apply Bd.om); omega)
          | ((with_reducible apply R.isLe); first | decide | omega)
          | with_reducible apply R.un
          | with_reducible apply R.u1
          | with_reducible apply R.tup
          | with_reducible apply R.lst
          | with_reducible apply R.call
          | with_reducible apply R.callB
          | with_reducible apply R.gtup
          | with_reducible apply R.gnil
          | with_reducible apply R.seq
          | with_reducible apply R.asg
          | with_reducible apply R.ret
          | with_reducible apply R.brk
          | with_reducible apply R.cont
          | with_reducible apply R.next
          | with_reducible apply R.drop
          | with_reducible apply R.par
          | with_reducible apply R.par2
          | with_reducible apply R.ifs
          | with_reducible apply R.tif
          | with_reducible apply R.test
          | with_reducible apply R.tb'
          | with_reducible apply R.isbl
          | with_reducible apply R.cmp
          | with_reducible apply R.t2i
          | with_reducible apply R.intp
          | with_reducible apply R.and
          | with_reducible apply R.or
          | with_reducible apply R.not
          | with_reducible apply R.andV
          | with_reducible apply R.orV
          | with_reducible apply R.notV
          | with_reducible apply R.chain
          | with_reducible apply R.tupL
          | with_reducible apply R.lstL
          | with_reducible apply R.cat
          | with_reducible apply R.absI
          | with_reducible apply R.intI
          | with_reducible apply R.intB
          | with_reducible apply R.eqS
          | with_reducible apply R.eqBl
          | with_reducible apply R.neBl
          | with_reducible apply R.sl
          | with_reducible apply R.noPart
          | with_reducible apply R.part
          | with_reducible apply R.isInt
          | with_reducible apply R.slL
          | with_reducible apply R.isiT
          | with_reducible apply R.isiLst
          | with_reducible apply R.nwT
          | with_reducible apply R.nwL
          | ((with_reducible apply R.mt); intro HN tn sn nn ht)
          | ((with_reducible apply R.ml); intro HN tn sn nn ht)
          | ((with_reducible apply R.isiTupS); focus ((repeat' (first | with_reducible assumption | with_reducible apply hU | ((with_reducible apply SqT.of); with_reducible assumption) | ((with_reducible apply same_seqT); with_reducible assumption) | ((with_reducible apply kp_seqT); with_reducible assumption) | ((with_reducible apply Dw.same); with_reducible assumption))); done))
          | ((with_reducible apply R.ne4); focus ((repeat' (first | with_reducible assumption | with_reducible apply hU | ((with_reducible apply SqT.of); with_reducible assumption) | ((with_reducible apply same_seqT); with_reducible assumption) | ((with_reducible apply kp_seqT); with_reducible assumption) | ((with_reducible apply Dw.same); with_reducible assumption))); done))
          | ((with_reducible apply R.ne3); focus ((repeat' (first | with_reducible assumption | with_reducible apply hU | ((with_reducible apply SqT.of); with_reducible assumption) | ((with_reducible apply same_seqT); with_reducible assumption) | ((with_reducible apply kp_seqT); with_reducible assumption) | ((with_reducible apply Dw.same); with_reducible assumption))); done))
          | ((with_reducible apply R.ne2); focus ((repeat' (first | with_reducible assumption | with_reducible apply hU | ((with_reducible apply SqT.of); with_reducible assumption) | ((with_reducible apply same_seqT); with_reducible assumption) | ((with_reducible apply kp_seqT); with_reducible assumption) | ((with_reducible apply Dw.same); with_reducible assumption))); done))
          | ((with_reducible apply R.eq4); focus ((repeat' (first | with_reducible assumption | with_reducible apply hU | ((with_reducible apply SqT.of); with_reducible assumption) | ((with_reducible apply same_seqT); with_reducible assumption) | ((with_reducible apply kp_seqT); with_reducible assumption) | ((with_reducible apply Dw.same); with_reducible assumption))); done))
          | ((with_reducible apply R.eq3); focus ((repeat' (first | with_reducible assumption | with_reducible apply hU | ((with_reducible apply SqT.of); with_reducible assumption) | ((with_reducible apply same_seqT); with_reducible assumption) | ((with_reducible apply kp_seqT); with_reducible assumption) | ((with_reducible apply Dw.same); with_reducible assumption))); done))
          | ((with_reducible apply R.eq2); focus ((repeat' (first | with_reducible assumption | with_reducible apply hU | ((with_reducible apply SqT.of); with_reducible assumption) | ((with_reducible apply same_seqT); with_reducible assumption) | ((with_reducible apply kp_seqT); with_reducible assumption) | ((with_reducible apply Dw.same); with_reducible assumption))); done))
          | with_reducible apply uLawNext
          | with_reducible apply uLawWide
          | ((with_reducible apply R.nw); intro HN tn sn ht)
          | with_reducible apply iteT
          | with_reducible apply iteF
          | with_reducible apply R.notT
          | with_reducible apply R.notF
          | ((with_reducible apply SqT.of); with_reducible assumption)
          | ((with_reducible apply SqL.of); with_reducible assumption)
          | ((with_reducible apply same_seqT); with_reducible assumption)
          | ((with_reducible apply sameB); with_reducible assumption)
          | ((with_reducible apply same_at); with_reducible assumption)
          | ((with_reducible apply kp_seqT); with_reducible assumption)
          | ((with_reducible apply Same.seq); with_reducible assumption)
          | ((with_reducible apply Kp.seqL); with_reducible assumption)
          | ((with_reducible apply fresh_ne); with_reducible assumption)
          | ((with_reducible apply Dw.same); with_reducible assumption)
          | ((with_reducible apply R.isEq); exact eq_true (by first | decide | omega))
          | ((with_reducible apply R.isLt); first | decide | omega)
          | ((with_reducible apply R.isLtI); first | decide | omega)
          | ((with_reducible apply R.isLeI); first | decide | omega)
          | ((with_reducible apply R.cdiv); exact rfl)
          | ((with_reducible apply R.cpow); exact rfl)
          | with_reducible apply R.cdivX
          | ((with_reducible apply R.isNe); omega)
          | with_reducible apply hU
          | ((with_reducible apply wayNF); first | exact rfl | exact ⟨rfl, rfl⟩ | exact ⟨rfl, rfl, rfl⟩ | exact ⟨rfl, rfl, rfl, rfl⟩)
          | with_reducible apply R.forE
          | with_reducible apply R.rng1
          | with_reducible apply R.rng2
          | with_reducible apply R.rg1
          | with_reducible apply R.rg2
          | with_reducible apply R.lcE
          | with_reducible apply R.itup
          | with_reducible apply R.ilst
          )
        exact ⟨_, _, sv, _, rfl, by omega, by decide, d10.same (by assumption)⟩
      | cons m0 ms0 =>
        repeat' (first
          | with_reducible apply R.var
          | ((with_reducible apply R.isEq); exact rfl)
          | with_reducible apply R.op
          | with_reducible apply R.i2
          | with_reducible apply R.i0
          | with_reducible apply R.con
          | with_reducible apply R.cons
          | with_reducible apply R.nil
          | with_reducible apply R.gcons
          | with_reducible apply R.gname
          | ((with_reducible apply R.ixT); (focus ((repeat' (first | with_reducible assumption | with_reducible apply hU | ((with_reducible apply SqT.of); with_reducible assumption) | ((with_reducible apply same_seqT); with_reducible assumption) | ((with_reducible apply kp_seqT); with_reducible assumption) | ((with_reducible apply Dw.same); with_reducible assumption))); done)); exact rfl)
          | ((with_reducible apply R.ixL); (focus ((repeat' (first | with_reducible assumption | ((with_reducible apply SqL.of); with_reducible assumption) | ((with_reducible apply Same.seq); with_reducible assumption) | ((with_reducible apply Kp.seqL); with_reducible assumption) | ((with_reducible apply fresh_ne); with_reducible assumption) | ((with_reducible apply Dw.same); with_reducible assumption))); done)); exact rfl)
          | with_reducible assumption
          | with_reducible apply Bd.mulW
          | with_reducible apply Bd.mul
          | with_reducible apply Bd.add
          | with_reducible apply Bd.sub
          | ((with_reducible apply Bd.l8); exact eq_true (by decide))
          | ((with_reducible apply Bd.lit); exact eq_true (by decide))
          | with_reducible apply Bd.neg
          | with_reducible apply Bd.div
          | with_reducible apply Bd.abs
          | with_reducible apply Bd.mod
          | with_reducible apply Bd.fdiv
          | ((with_reducible apply Bd.om); omega)
          | ((with_reducible apply R.isLe); first | decide | omega)
          | with_reducible apply R.un
          | with_reducible apply R.u1
          | with_reducible apply R.tup
          | with_reducible apply R.lst
          | with_reducible apply R.call
          | with_reducible apply R.callB
          | with_reducible apply R.gtup
          | with_reducible apply R.gnil
          | with_reducible apply R.seq
          | with_reducible apply R.asg
          | with_reducible apply R.ret
          | with_reducible apply R.brk
          | with_reducible apply R.cont
          | with_reducible apply R.next
          | with_reducible apply R.drop
          | with_reducible apply R.par
          | with_reducible apply R.par2
          | with_reducible apply R.ifs
          | with_reducible apply R.tif
          | with_reducible apply R.test
          | with_reducible apply R.tb'
          | with_reducible apply R.isbl
          | with_reducible apply R.cmp
          | with_reducible apply R.t2i
          | with_reducible apply R.intp
          | with_reducible apply R.and
          | with_reducible apply R.or
          | with_reducible apply R.not
          | with_reducible apply R.andV
          | with_reducible apply R.orV
          | with_reducible apply R.notV
          | with_reducible apply R.chain
          | with_reducible apply R.tupL
          | with_reducible apply R.lstL
          | with_reducible apply R.cat
          | with_reducible apply R.absI
          | with_reducible apply R.intI
          | with_reducible apply R.intB
          | with_reducible apply R.eqS
          | with_reducible apply R.eqBl
          | with_reducible apply R.neBl
          | with_reducible apply R.sl
          | with_reducible apply R.noPart
          | with_reducible apply R.part
          | with_reducible apply R.isInt
          | with_reducible apply R.slL
          | with_reducible apply R.isiT
          | with_reducible apply R.isiLst
          | with_reducible apply R.nwT
          | with_reducible apply R.nwL
          | ((with_reducible apply R.mt); intro HN tn sn nn ht)
          | ((with_reducible apply R.ml); intro HN tn sn nn ht)
          | ((with_reducible apply R.isiTupS); focus ((repeat' (first | with_reducible assumption | with_reducible apply hU | ((with_reducible apply SqT.of); with_reducible assumption) | ((with_reducible apply same_seqT); with_reducible assumption) | ((with_reducible apply kp_seqT); with_reducible assumption) | ((with_reducible apply Dw.same); with_reducible assumption))); done))
          | ((with_reducible apply R.ne4); focus ((repeat' (first | with_reducible assumption | with_reducible apply hU | ((with_reducible apply SqT.of); with_reducible assumption) | ((with_reducible apply same_seqT); with_reducible assumption) | ((with_reducible apply kp_seqT); with_reducible assumption) | ((with_reducible apply Dw.same); with_reducible assumption))); done))
          | ((with_reducible apply R.ne3); focus ((repeat' (first | with_reducible assumption | with_reducible apply hU | ((with_reducible apply SqT.of); with_reducible assumption) | ((with_reducible apply same_seqT); with_reducible assumption) | ((with_reducible apply kp_seqT); with_reducible assumption) | ((with_reducible apply Dw.same); with_reducible assumption))); done))
          | ((with_reducible apply R.ne2); focus ((repeat' (first | with_reducible assumption | with_reducible apply hU | ((with_reducible apply SqT.of); with_reducible assumption) | ((with_reducible apply same_seqT); with_reducible assumption) | ((with_reducible apply kp_seqT); with_reducible assumption) | ((with_reducible apply Dw.same); with_reducible assumption))); done))
          | ((with_reducible apply R.eq4); focus ((repeat' (first | with_reducible assumption | with_reducible apply hU | ((with_reducible apply SqT.of); with_reducible assumption) | ((with_reducible apply same_seqT); with_reducible assumption) | ((with_reducible apply kp_seqT); with_reducible assumption) | ((with_reducible apply Dw.same); with_reducible assumption))); done))
          | ((with_reducible apply R.eq3); focus ((repeat' (first | with_reducible assumption | with_reducible apply hU | ((with_reducible apply SqT.of); with_reducible assumption) | ((with_reducible apply same_seqT); with_reducible assumption) | ((with_reducible apply kp_seqT); with_reducible assumption) | ((with_reducible apply Dw.same); with_reducible assumption))); done))
          | ((with_reducible apply R.eq2); focus ((repeat' (first | with_reducible assumption | with_reducible apply hU | ((with_reducible apply SqT.of); with_reducible assumption) | ((with_reducible apply same_seqT); with_reducible assumption) | ((with_reducible apply kp_seqT); with_reducible assumption) | ((with_reducible apply Dw.same); with_reducible assumption))); done))
          | with_reducible apply uLawNext
          | with_reducible apply uLawWide
          | ((with_reducible apply R.nw); intro HN tn sn ht)
          | with_reducible apply iteT
          | with_reducible apply iteF
          | with_reducible apply R.notT
          | with_reducible apply R.notF
          | ((with_reducible apply SqT.of); with_reducible assumption)
          | ((with_reducible apply SqL.of); with_reducible assumption)
          | ((with_reducible apply same_seqT); with_reducible assumption)
          | ((with_reducible apply sameB); with_reducible assumption)
          | ((with_reducible apply same_at); with_reducible assumption)
          | ((with_reducible apply kp_seqT); with_reducible assumption)
          | ((with_reducible apply Same.seq); with_reducible assumption)
          | ((with_reducible apply Kp.seqL); with_reducible assumption)
          | ((with_reducible apply fresh_ne); with_reducible assumption)
          | ((with_reducible apply Dw.same); with_reducible assumption)
          | ((with_reducible apply R.isEq); exact eq_true (by first | decide | omega))
          | ((with_reducible apply R.isLt); first | decide | omega)
          | ((with_reducible apply R.isLtI); first | decide | omega)
          | ((with_reducible apply R.isLeI); first | decide | omega)
          | ((with_reducible apply R.cdiv); exact rfl)
          | ((with_reducible apply R.cpow); exact rfl)
          | with_reducible apply R.cdivX
          | ((with_reducible apply R.isNe); omega)
          | with_reducible apply hU
          | ((with_reducible apply wayNF); first | exact rfl | exact ⟨rfl, rfl⟩ | exact ⟨rfl, rfl, rfl⟩ | exact ⟨rfl, rfl, rfl, rfl⟩)
          | with_reducible apply R.forE
          | with_reducible apply R.rng1
          | with_reducible apply R.rng2
          | with_reducible apply R.rg1
          | with_reducible apply R.rg2
          | with_reducible apply R.lcE
          | with_reducible apply R.itup
          | with_reducible apply R.ilst
          )
        refine iteT ?_
        repeat' (first
          | with_reducible apply R.var
          | ((with_reducible apply R.isEq); exact rfl)
          | with_reducible apply R.op
          | with_reducible apply R.i2
          | with_reducible apply R.i0
          | with_reducible apply R.con
          | with_reducible apply R.cons
          | with_reducible apply R.nil
          | with_reducible apply R.gcons
          | with_reducible apply R.gname
          | ((with_reducible apply R.ixT); (focus ((repeat' (first | with_reducible assumption | with_reducible apply hU | ((with_reducible apply SqT.of); with_reducible assumption) | ((with_reducible apply same_seqT); with_reducible assumption) | ((with_reducible apply kp_seqT); with_reducible assumption) | ((with_reducible apply Dw.same); with_reducible assumption))); done)); exact rfl)
          | ((with_reducible apply R.ixL); (focus ((repeat' (first | with_reducible assumption | ((with_reducible apply SqL.of); with_reducible assumption) | ((with_reducible apply Same.seq); with_reducible assumption) | ((with_reducible apply Kp.seqL); with_reducible assumption) | ((with_reducible apply fresh_ne); with_reducible assumption) | ((with_reducible apply Dw.same); with_reducible assumption))); done)); exact rfl)
          | with_reducible assumption
          | with_reducible apply Bd.mulW
          | with_reducible apply Bd.mul
          | with_reducible apply Bd.add
          | with_reducible apply Bd.sub
          | ((with_reducible apply Bd.l8); exact eq_true (by decide))
          | ((with_reducible apply Bd.lit); exact eq_true (by decide))
          | with_reducible apply Bd.neg
          | with_reducible apply Bd.div
          | with_reducible apply Bd.abs
          | with_reducible apply Bd.mod
          | with_reducible apply Bd.fdiv
          | ((with_reducible apply Bd.om); omega)
          | ((with_reducible apply R.isLe); first | decide | omega)
          | with_reducible apply R.un
          | with_reducible apply R.u1
          | with_reducible apply R.tup
          | with_reducible apply R.lst
          | with_reducible apply R.call
          | with_reducible apply R.callB
          | with_reducible apply R.gtup
          | with_reducible apply R.gnil
          | with_reducible apply R.seq
          | with_reducible apply R.asg
          | with_reducible apply R.ret
          | with_reducible apply R.brk
          | with_reducible apply R.cont
          | with_reducible apply R.next
          | with_reducible apply R.drop
          | with_reducible apply R.par
          | with_reducible apply R.par2
          | with_reducible apply R.ifs
          | with_reducible apply R.tif
          | with_reducible apply R.test
          | with_reducible apply R.tb'
          | with_reducible apply R.isbl
          | with_reducible apply R.cmp
          | with_reducible apply R.t2i
          | with_reducible apply R.intp
          | with_reducible apply R.and
          | with_reducible apply R.or
          | with_reducible apply R.not
          | with_reducible apply R.andV
          | with_reducible apply R.orV
          | with_reducible apply R.notV
          | with_reducible apply R.chain
          | with_reducible apply R.tupL
          | with_reducible apply R.lstL
          | with_reducible apply R.cat
          | with_reducible apply R.absI
          | with_reducible apply R.intI
          | with_reducible apply R.intB
          | with_reducible apply R.eqS
          | with_reducible apply R.eqBl
          | with_reducible apply R.neBl
          | with_reducible apply R.sl
          | with_reducible apply R.noPart
          | with_reducible apply R.part
          | with_reducible apply R.isInt
          | with_reducible apply R.slL
          | with_reducible apply R.isiT
          | with_reducible apply R.isiLst
          | with_reducible apply R.nwT
          | with_reducible apply R.nwL
          | ((with_reducible apply R.mt); intro HN tn sn nn ht)
          | ((with_reducible apply R.ml); intro HN tn sn nn ht)
          | ((with_reducible apply R.isiTupS); focus ((repeat' (first | with_reducible assumption | with_reducible apply hU | ((with_reducible apply SqT.of); with_reducible assumption) | ((with_reducible apply same_seqT); with_reducible assumption) | ((with_reducible apply kp_seqT); with_reducible assumption) | ((with_reducible apply Dw.same); with_reducible assumption))); done))
          | ((with_reducible apply R.ne4); focus ((repeat' (first | with_reducible assumption | with_reducible apply hU | ((with_reducible apply SqT.of); with_reducible assumption) | ((with_reducible apply same_seqT); with_reducible assumption) | ((with_reducible apply kp_seqT); with_reducible assumption) | ((with_reducible apply Dw.same); with_reducible assumption))); done))
          | ((with_reducible apply R.ne3); focus ((repeat' (first | with_reducible assumption | with_reducible apply hU | ((with_reducible apply SqT.of); with_reducible assumption) | ((with_reducible apply same_seqT); with_reducible assumption) | ((with_reducible apply kp_seqT); with_reducible assumption) | ((with_reducible apply Dw.same); with_reducible assumption))); done))
          | ((with_reducible apply R.ne2); focus ((repeat' (first | with_reducible assumption | with_reducible apply hU | ((with_reducible apply SqT.of); with_reducible assumption) | ((with_reducible apply same_seqT); with_reducible assumption) | ((with_reducible apply kp_seqT); with_reducible assumption) | ((with_reducible apply Dw.same); with_reducible assumption))); done))
          | ((with_reducible apply R.eq4); focus ((repeat' (first | with_reducible assumption | with_reducible apply hU | ((with_reducible apply SqT.of); with_reducible assumption) | ((with_reducible apply same_seqT); with_reducible assumption) | ((with_reducible apply kp_seqT); with_reducible assumption) | ((with_reducible apply Dw.same); with_reducible assumption))); done))
          | ((with_reducible apply R.eq3); focus ((repeat' (first | with_reducible assumption | with_reducible apply hU | ((with_reducible apply SqT.of); with_reducible assumption) | ((with_reducible apply same_seqT); with_reducible assumption) | ((with_reducible apply kp_seqT); with_reducible assumption) | ((with_reducible apply Dw.same); with_reducible assumption))); done))
          | ((with_reducible apply R.eq2); focus ((repeat' (first | with_reducible assumption | with_reducible apply hU | ((with_reducible apply SqT.of); with_reducible assumption) | ((with_reducible apply same_seqT); with_reducible assumption) | ((with_reducible apply kp_seqT); with_reducible assumption) | ((with_reducible apply Dw.same); with_reducible assumption))); done))
          | with_reducible apply uLawNext
          | with_reducible apply uLawWide
          | ((with_reducible apply R.nw); intro HN tn sn ht)
          | with_reducible apply iteT
          | with_reducible apply iteF
          | with_reducible apply R.notT
          | with_reducible apply R.notF
          | ((with_reducible apply SqT.of); with_reducible assumption)
          | ((with_reducible apply SqL.of); with_reducible assumption)
          | ((with_reducible apply same_seqT); with_reducible assumption)
          | ((with_reducible apply sameB); with_reducible assumption)
          | ((with_reducible apply same_at); with_reducible assumption)
          | ((with_reducible apply kp_seqT); with_reducible assumption)
          | ((with_reducible apply Same.seq); with_reducible assumption)
          | ((with_reducible apply Kp.seqL); with_reducible assumption)
          | ((with_reducible apply fresh_ne); with_reducible assumption)
          | ((with_reducible apply Dw.same); with_reducible assumption)
          | ((with_reducible apply R.isEq); exact eq_true (by first | decide | omega))
          | ((with_reducible apply R.isLt); first | decide | omega)
          | ((with_reducible apply R.isLtI); first | decide | omega)
          | ((with_reducible apply R.isLeI); first | decide | omega)
          | ((with_reducible apply R.cdiv); exact rfl)
          | ((with_reducible apply R.cpow); exact rfl)
          | with_reducible apply R.cdivX
          | ((with_reducible apply R.isNe); omega)
          | with_reducible apply hU
          | ((with_reducible apply wayNF); first | exact rfl | exact ⟨rfl, rfl⟩ | exact ⟨rfl, rfl, rfl⟩ | exact ⟨rfl, rfl, rfl, rfl⟩)
          | with_reducible apply R.forE
          | with_reducible apply R.rng1
          | with_reducible apply R.rng2
          | with_reducible apply R.rg1
          | with_reducible apply R.rg2
          | with_reducible apply R.lcE
          | with_reducible apply R.itup
          | with_reducible apply R.ilst
          )
        refine ⟨_, _, rfl, .inl hDN, ?_⟩
        rw [List.length_map]
        have hpos : (0 : Int) < (((m0 :: ms0).length : Nat) : Int) := by
          rw [List.length_cons]
          omega
        repeat' (first
          | with_reducible apply R.var
          | ((with_reducible apply R.isEq); exact rfl)
          | with_reducible apply R.op
          | with_reducible apply R.i2
          | with_reducible apply R.i0
          | with_reducible apply R.con
          | with_reducible apply R.cons
          | with_reducible apply R.nil
          | with_reducible apply R.gcons
          | with_reducible apply R.gname
          | ((with_reducible apply R.ixT); (focus ((repeat' (first | with_reducible assumption | with_reducible apply hU | ((with_reducible apply SqT.of); with_reducible assumption) | ((with_reducible apply same_seqT); with_reducible assumption) | ((with_reducible apply kp_seqT); with_reducible assumption) | ((with_reducible apply Dw.same); with_reducible assumption))); done)); exact rfl)
          | ((with_reducible apply R.ixL); (focus ((repeat' (first | with_reducible assumption | ((with_reducible apply SqL.of); with_reducible assumption) | ((with_reducible apply Same.seq); with_reducible assumption) | ((with_reducible apply Kp.seqL); with_reducible assumption) | ((with_reducible apply fresh_ne); with_reducible assumption) | ((with_reducible apply Dw.same); with_reducible assumption))); done)); exact rfl)
          | with_reducible assumption
          | with_reducible apply Bd.mulW
          | with_reducible apply Bd.mul
          | with_reducible apply Bd.add
          | with_reducible apply Bd.sub
          | ((with_reducible apply Bd.l8); exact eq_true (by decide))
          | ((with_reducible apply Bd.lit); exact eq_true (by decide))
          | with_reducible apply Bd.neg
          | with_reducible apply Bd.div
          | with_reducible apply Bd.abs
          | with_reducible apply Bd.mod
          | with_reducible apply Bd.fdiv
          | ((with_reducible apply Bd.om); omega)
          | ((with_reducible apply R.isLe); first | decide | omega)
          | with_reducible apply R.un
          | with_reducible apply R.u1
          | with_reducible apply R.tup
          | with_reducible apply R.lst
          | with_reducible apply R.call
          | with_reducible apply R.callB
          | with_reducible apply R.gtup
          | with_reducible apply R.gnil
          | with_reducible apply R.seq
          | with_reducible apply R.asg
          | with_reducible apply R.ret
          | with_reducible apply R.brk
          | with_reducible apply R.cont
          | with_reducible apply R.next
          | with_reducible apply R.drop
          | with_reducible apply R.par
          | with_reducible apply R.par2
          | with_reducible apply R.ifs
          | with_reducible apply R.tif
          | with_reducible apply R.test
          | with_reducible apply R.tb'
          | with_reducible apply R.isbl
          | with_reducible apply R.cmp
          | with_reducible apply R.t2i
          | with_reducible apply R.intp
          | with_reducible apply R.and
          | with_reducible apply R.or
          | with_reducible apply R.not
          | with_reducible apply R.andV
          | with_reducible apply R.orV
          | with_reducible apply R.notV
          | with_reducible apply R.chain
          | with_reducible apply R.tupL
          | with_reducible apply R.lstL
          | with_reducible apply R.cat
          | with_reducible apply R.absI
          | with_reducible apply R.intI
          | with_reducible apply R.intB
          | with_reducible apply R.eqS
          | with_reducible apply R.eqBl
          | with_reducible apply R.neBl
          | with_reducible apply R.sl
          | with_reducible apply R.noPart
          | with_reducible apply R.part
          | with_reducible apply R.isInt
          | with_reducible apply R.slL
          | with_reducible apply R.isiT
          | with_reducible apply R.isiLst
          | with_reducible apply R.nwT
          | with_reducible apply R.nwL
          | ((with_reducible apply R.mt); intro HN tn sn nn ht)
          | ((with_reducible apply R.ml); intro HN tn sn nn ht)
          | ((with_reducible apply R.isiTupS); focus ((repeat' (first | with_reducible assumption | with_reducible apply hU | ((with_reducible apply SqT.of); with_reducible assumption) | ((with_reducible apply same_seqT); with_reducible assumption) | ((with_reducible apply kp_seqT); with_reducible assumption) | ((with_reducible apply Dw.same); with_reducible assumption))); done))
          | ((with_reducible apply R.ne4); focus ((repeat' (first | with_reducible assumption | with_reducible apply hU | ((with_reducible apply SqT.of); with_reducible assumption) | ((with_reducible apply same_seqT); with_reducible assumption) | ((with_reducible apply kp_seqT); with_reducible assumption) | ((with_reducible apply Dw.same); with_reducible assumption))); done))
          | ((with_reducible apply R.ne3); focus ((repeat' (first | with_reducible assumption | with_reducible apply hU | ((with_reducible apply SqT.of); with_reducible assumption) | ((with_reducible apply same_seqT); with_reducible assumption) | ((with_reducible apply kp_seqT); with_reducible assumption) | ((with_reducible apply Dw.same); with_reducible assumption))); done))
          | ((with_reducible apply R.ne2); focus ((repeat' (first | with_reducible assumption | with_reducible apply hU | ((with_reducible apply SqT.of); with_reducible assumption) | ((with_reducible apply same_seqT); with_reducible assumption) | ((with_reducible apply kp_seqT); with_reducible assumption) | ((with_reducible apply Dw.same); with_reducible assumption))); done))
          | ((with_reducible apply R.eq4); focus ((repeat' (first | with_reducible assumption | with_reducible apply hU | ((with_reducible apply SqT.of); with_reducible assumption) | ((with_reducible apply same_seqT); with_reducible assumption) | ((with_reducible apply kp_seqT); with_reducible assumption) | ((with_reducible apply Dw.same); with_reducible assumption))); done))
          | ((with_reducible apply R.eq3); focus ((repeat' (first | with_reducible assumption | with_reducible apply hU | ((with_reducible apply SqT.of); with_reducible assumption) | ((with_reducible apply same_seqT); with_reducible assumption) | ((with_reducible apply kp_seqT); with_reducible assumption) | ((with_reducible apply Dw.same); with_reducible assumption))); done))
          | ((with_reducible apply R.eq2); focus ((repeat' (first | with_reducible assumption | with_reducible apply hU | ((with_reducible apply SqT.of); with_reducible assumption) | ((with_reducible apply same_seqT); with_reducible assumption) | ((with_reducible apply kp_seqT); with_reducible assumption) | ((with_reducible apply Dw.same); with_reducible assumption))); done))
          | with_reducible apply uLawNext
          | with_reducible apply uLawWide
          | ((with_reducible apply R.nw); intro HN tn sn ht)
          | with_reducible apply iteT
          | with_reducible apply iteF
          | with_reducible apply R.notT
          | with_reducible apply R.notF
          | ((with_reducible apply SqT.of); with_reducible assumption)
          | ((with_reducible apply SqL.of); with_reducible assumption)
          | ((with_reducible apply same_seqT); with_reducible assumption)
          | ((with_reducible apply sameB); with_reducible assumption)
          | ((with_reducible apply same_at); with_reducible assumption)
          | ((with_reducible apply kp_seqT); with_reducible assumption)
          | ((with_reducible apply Same.seq); with_reducible assumption)
          | ((with_reducible apply Kp.seqL); with_reducible assumption)
          | ((with_reducible apply fresh_ne); with_reducible assumption)
          | ((with_reducible apply Dw.same); with_reducible assumption)
          | ((with_reducible apply R.isEq); exact eq_true (by first | decide | omega))
          | ((with_reducible apply R.isLt); first | decide | omega)
          | ((with_reducible apply R.isLtI); first | decide | omega)
          | ((with_reducible apply R.isLeI); first | decide | omega)
          | ((with_reducible apply R.cdiv); exact rfl)
          | ((with_reducible apply R.cpow); exact rfl)
          | with_reducible apply R.cdivX
          | ((with_reducible apply R.isNe); omega)
          | with_reducible apply hU
          | ((with_reducible apply wayNF); first | exact rfl | exact ⟨rfl, rfl⟩ | exact ⟨rfl, rfl, rfl⟩ | exact ⟨rfl, rfl, rfl, rfl⟩)
          | with_reducible apply R.forE
          | with_reducible apply R.rng1
          | with_reducible apply R.rng2
          | with_reducible apply R.rg1
          | with_reducible apply R.rg2
          | with_reducible apply R.lcE
          | with_reducible apply R.itup
          | with_reducible apply R.ilst
          )
        intro r8 H10 r8a r8b d12 k12
        obtain ⟨w, hw, ew⟩ := at_int (ns := m0 :: ms0) r8a r8b
        have hw2 := h3 w hw
        refine R.ixL (k12.seqL (by assumption) hDN) ew ?_
        have e2 : (sv * w).natAbs ≤ 200 := by
          rcases hsv with rfl | rfl <;> omega
        repeat' (first
          | with_reducible apply R.var
          | ((with_reducible apply R.isEq); exact rfl)
          | with_reducible apply R.op
          | with_reducible apply R.i2
          | with_reducible apply R.i0
          | with_reducible apply R.con
          | with_reducible apply R.cons
          | with_reducible apply R.nil
          | with_reducible apply R.gcons
          | with_reducible apply R.gname
          | ((with_reducible apply R.ixT); (focus ((repeat' (first | with_reducible assumption | with_reducible apply hU | ((with_reducible apply SqT.of); with_reducible assumption) | ((with_reducible apply same_seqT); with_reducible assumption) | ((with_reducible apply kp_seqT); with_reducible assumption) | ((with_reducible apply Dw.same); with_reducible assumption))); done)); exact rfl)
          | ((with_reducible apply R.ixL); (focus ((repeat' (first | with_reducible assumption | ((with_reducible apply SqL.of); with_reducible assumption) | ((with_reducible apply Same.seq); with_reducible assumption) | ((with_reducible apply Kp.seqL); with_reducible assumption) | ((with_reducible apply fresh_ne); with_reducible assumption) | ((with_reducible apply Dw.same); with_reducible assumption))); done)); exact rfl)
          | with_reducible assumption
          | with_reducible apply Bd.mulW
          | with_reducible apply Bd.mul
          | with_reducible apply Bd.add
          | with_reducible apply Bd.sub
          | ((with_reducible apply Bd.l8); exact eq_true (by decide))
          | ((with_reducible apply Bd.lit); exact eq_true (by decide))
          | with_reducible apply Bd.neg
          | with_reducible apply Bd.div
          | with_reducible apply Bd.abs
          | with_reducible apply Bd.mod
          | with_reducible apply Bd.fdiv
          | ((with_reducible apply Bd.om); omega)
          | ((with_reducible apply R.isLe); first | decide | omega)
          | with_reducible apply R.un
          | with_reducible apply R.u1
          | with_reducible apply R.tup
          | with_reducible apply R.lst
          | with_reducible apply R.call
          | with_reducible apply R.callB
          | with_reducible apply R.gtup
          | with_reducible apply R.gnil
          | with_reducible apply R.seq
          | with_reducible apply R.asg
          | with_reducible apply R.ret
          | with_reducible apply R.brk
          | with_reducible apply R.cont
          | with_reducible apply R.next
          | with_reducible apply R.drop
          | with_reducible apply R.par
          | with_reducible apply R.par2
          | with_reducible apply R.ifs
          | with_reducible apply R.tif
          | with_reducible apply R.test
          | with_reducible apply R.tb'
          | with_reducible apply R.isbl
          | with_reducible apply R.cmp
          | with_reducible apply R.t2i
          | with_reducible apply R.intp
          | with_reducible apply R.and
          | with_reducible apply R.or
          | with_reducible apply R.not
          | with_reducible apply R.andV
          | with_reducible apply R.orV
          | with_reducible apply R.notV
          | with_reducible apply R.chain
          | with_reducible apply R.tupL
          | with_reducible apply R.lstL
          | with_reducible apply R.cat
          | with_reducible apply R.absI
          | with_reducible apply R.intI
          | with_reducible apply R.intB
          | with_reducible apply R.eqS
          | with_reducible apply R.eqBl
          | with_reducible apply R.neBl
          | with_reducible apply R.sl
          | with_reducible apply R.noPart
          | with_reducible apply R.part
          | with_reducible apply R.isInt
          | with_reducible apply R.slL
          | with_reducible apply R.isiT
          | with_reducible apply R.isiLst
          | with_reducible apply R.nwT
          | with_reducible apply R.nwL
          | ((with_reducible apply R.mt); intro HN tn sn nn ht)
          | ((with_reducible apply R.ml); intro HN tn sn nn ht)
          | ((with_reducible apply R.isiTupS); focus ((repeat' (first | with_reducible assumption | with_reducible apply hU | ((with_reducible apply SqT.of); with_reducible assumption) | ((with_reducible apply same_seqT); with_reducible assumption) | ((with_reducible apply kp_seqT); with_reducible assumption) | ((with_reducible apply Dw.same); with_reducible assumption))); done))
          | ((with_reducible apply R.ne4); focus ((repeat' (first | with_reducible assumption | with_reducible apply hU | ((with_reducible apply SqT.of); with_reducible assumption) | ((with_reducible apply same_seqT); with_reducible assumption) | ((with_reducible apply kp_seqT); with_reducible assumption) | ((with_reducible apply Dw.same); with_reducible assumption))); done))
          | ((with_reducible apply R.ne3); focus ((repeat' (first | with_reducible assumption | with_reducible apply hU | ((with_reducible apply SqT.of); with_reducible assumption) | ((with_reducible apply same_seqT); with_reducible assumption) | ((with_reducible apply kp_seqT); with_reducible assumption) | ((with_reducible apply Dw.same); with_reducible assumption))); done))
          | ((with_reducible apply R.ne2); focus ((repeat' (first | with_reducible assumption | with_reducible apply hU | ((with_reducible apply SqT.of); with_reducible assumption) | ((with_reducible apply same_seqT); with_reducible assumption) | ((with_reducible apply kp_seqT); with_reducible assumption) | ((with_reducible apply Dw.same); with_reducible assumption))); done))
          | ((with_reducible apply R.eq4); focus ((repeat' (first | with_reducible assumption | with_reducible apply hU | ((with_reducible apply SqT.of); with_reducible assumption) | ((with_reducible apply same_seqT); with_reducible assumption) | ((with_reducible apply kp_seqT); with_reducible assumption) | ((with_reducible apply Dw.same); with_reducible assumption))); done))
          | ((with_reducible apply R.eq3); focus ((repeat' (first | with_reducible assumption | with_reducible apply hU | ((with_reducible apply SqT.of); with_reducible assumption) | ((with_reducible apply same_seqT); with_reducible assumption) | ((with_reducible apply kp_seqT); with_reducible assumption) | ((with_reducible apply Dw.same); with_reducible assumption))); done))
          | ((with_reducible apply R.eq2); focus ((repeat' (first | with_reducible assumption | with_reducible apply hU | ((with_reducible apply SqT.of); with_reducible assumption) | ((with_reducible apply same_seqT); with_reducible assumption) | ((with_reducible apply kp_seqT); with_reducible assumption) | ((with_reducible apply Dw.same); with_reducible assumption))); done))
          | with_reducible apply uLawNext
          | with_reducible apply uLawWide
          | ((with_reducible apply R.nw); intro HN tn sn ht)
          | with_reducible apply iteT
          | with_reducible apply iteF
          | with_reducible apply R.notT
          | with_reducible apply R.notF
          | ((with_reducible apply SqT.of); with_reducible assumption)
          | ((with_reducible apply SqL.of); with_reducible assumption)
          | ((with_reducible apply same_seqT); with_reducible assumption)
          | ((with_reducible apply sameB); with_reducible assumption)
          | ((with_reducible apply same_at); with_reducible assumption)
          | ((with_reducible apply kp_seqT); with_reducible assumption)
          | ((with_reducible apply Same.seq); with_reducible assumption)
          | ((with_reducible apply Kp.seqL); with_reducible assumption)
          | ((with_reducible apply fresh_ne); with_reducible assumption)
          | ((with_reducible apply Dw.same); with_reducible assumption)
          | ((with_reducible apply R.isEq); exact eq_true (by first | decide | omega))
          | ((with_reducible apply R.isLt); first | decide | omega)
          | ((with_reducible apply R.isLtI); first | decide | omega)
          | ((with_reducible apply R.isLeI); first | decide | omega)
          | ((with_reducible apply R.cdiv); exact rfl)
          | ((with_reducible apply R.cpow); exact rfl)
          | with_reducible apply R.cdivX
          | ((with_reducible apply R.isNe); omega)
          | with_reducible apply hU
          | ((with_reducible apply wayNF); first | exact rfl | exact ⟨rfl, rfl⟩ | exact ⟨rfl, rfl, rfl⟩ | exact ⟨rfl, rfl, rfl, rfl⟩)
          | with_reducible apply R.forE
          | with_reducible apply R.rng1
          | with_reducible apply R.rng2
          | with_reducible apply R.rg1
          | with_reducible apply R.rg2
          | with_reducible apply R.lcE
          | with_reducible apply R.itup
          | with_reducible apply R.ilst
          )
        exact ⟨_, _, _, _, rfl, e2, by decide, d12⟩
    clear hS h1 h2 h3 h4
    obtain ⟨x6, x8, q, N, rfl, hq, hN, d12⟩ := hMid
    refine R.cut (Mid := fun σ H' => ∃ (x6 x8 : Option V) (q : Int) (N : Nat), σ = [some (.ref l), some (.ref p), some (.int d), some (.int pv), some (.int root), some (.bl sq), x6, some (.int q), x8, none, none, none, none, none, none, none, none, none] ∧ q.natAbs ≤ 200 ∧ N ≤ 300 ∧ Dw H' p a N) ?_ (fun σ H11 hMid => ?_)
    · skip
      repeat' (first
        | with_reducible apply R.var
        | ((with_reducible apply R.isEq); exact rfl)
        | with_reducible apply R.op
        | with_reducible apply R.i2
        | with_reducible apply R.i0
        | with_reducible apply R.con
        | with_reducible apply R.cons
        | with_reducible apply R.nil
        | with_reducible apply R.gcons
        | with_reducible apply R.gname
        | ((with_reducible apply R.ixT); (focus ((repeat' (first | with_reducible assumption | with_reducible apply hU | ((with_reducible apply SqT.of); with_reducible assumption) | ((with_reducible apply same_seqT); with_reducible assumption) | ((with_reducible apply kp_seqT); with_reducible assumption) | ((with_reducible apply Dw.same); with_reducible assumption))); done)); exact rfl)
        | ((with_reducible apply R.ixL); (focus ((repeat' (first | with_reducible assumption | ((with_reducible apply SqL.of); with_reducible assumption) | ((with_reducible apply Same.seq); with_reducible assumption) | ((with_reducible apply Kp.seqL); with_reducible assumption) | ((with_reducible apply fresh_ne); with_reducible assumption) | ((with_reducible apply Dw.same); with_reducible assumption))); done)); exact rfl)
        | with_reducible assumption
        | with_reducible apply Bd.mulW
        | with_reducible apply Bd.mul
        | with_reducible apply Bd.add
        | with_reducible apply Bd.sub
        | ((with_reducible apply Bd.l8); exact eq_true (by decide))
        | ((with_reducible apply Bd.lit); exact eq_true (by decide))
        | with_reducible apply Bd.neg
        | with_reducible apply Bd.div
        | with_reducible apply Bd.abs
        | with_reducible apply Bd.mod
        | with_reducible apply Bd.fdiv
        | ((with_reducible apply Bd.om); omega)
        | ((with_reducible apply R.isLe); first | decide | omega)
        | with_reducible apply R.un
        | with_reducible apply R.u1
        | with_reducible apply R.tup
        | with_reducible apply R.lst
        | with_reducible apply R.call
        | with_reducible apply R.callB
        | with_reducible apply R.gtup
        | with_reducible apply R.gnil
        | with_reducible apply R.seq
        | with_reducible apply R.asg
        | with_reducible apply R.ret
        | with_reducible apply R.brk
        | with_reducible apply R.cont
        | with_reducible apply R.next
        | with_reducible apply R.drop
        | with_reducible apply R.par
        | with_reducible apply R.par2
        | with_reducible apply R.ifs
        | with_reducible apply R.tif
        | with_reducible apply R.test
        | with_reducible apply R.tb'
        | with_reducible apply R.isbl
        | with_reducible apply R.cmp
        | with_reducible apply R.t2i
        | with_reducible apply R.intp
        | with_reducible apply R.and
        | with_reducible apply R.or
        | with_reducible apply R.not
        | with_reducible apply R.andV
        | with_reducible apply R.orV
        | with_reducible apply R.notV
        | with_reducible apply R.chain
        | with_reducible apply R.tupL
        | with_reducible apply R.lstL
        | with_reducible apply R.cat
        | with_reducible apply R.absI
        | with_reducible apply R.intI
        | with_reducible apply R.intB
        | with_reducible apply R.eqS
        | with_reducible apply R.eqBl
        | with_reducible apply R.neBl
        | with_reducible apply R.sl
        | with_reducible apply R.noPart
        | with_reducible apply R.part
        | with_reducible apply R.isInt
        | with_reducible apply R.slL
        | with_reducible apply R.isiT
        | with_reducible apply R.isiLst
        | with_reducible apply R.nwT
        | with_reducible apply R.nwL
        | ((with_reducible apply R.mt); intro HN tn sn nn ht)
        | ((with_reducible apply R.ml); intro HN tn sn nn ht)
        | ((with_reducible apply R.isiTupS); focus ((repeat' (first | with_reducible assumption | with_reducible apply hU | ((with_reducible apply SqT.of); with_reducible assumption) | ((with_reducible apply same_seqT); with_reducible assumption) | ((with_reducible apply kp_seqT); with_reducible assumption) | ((with_reducible apply Dw.same); with_reducible assumption))); done))
        | ((with_reducible apply R.ne4); focus ((repeat' (first | with_reducible assumption | with_reducible apply hU | ((with_reducible apply SqT.of); with_reducible assumption) | ((with_reducible apply same_seqT); with_reducible assumption) | ((with_reducible apply kp_seqT); with_reducible assumption) | ((with_reducible apply Dw.same); with_reducible assumption))); done))
        | ((with_reducible apply R.ne3); focus ((repeat' (first | with_reducible assumption | with_reducible apply hU | ((with_reducible apply SqT.of); with_reducible assumption) | ((with_reducible apply same_seqT); with_reducible assumption) | ((with_reducible apply kp_seqT); with_reducible assumption) | ((with_reducible apply Dw.same); with_reducible assumption))); done))
        | ((with_reducible apply R.ne2); focus ((repeat' (first | with_reducible assumption | with_reducible apply hU | ((with_reducible apply SqT.of); with_reducible assumption) | ((with_reducible apply same_seqT); with_reducible assumption) | ((with_reducible apply kp_seqT); with_reducible assumption) | ((with_reducible apply Dw.same); with_reducible assumption))); done))
        | ((with_reducible apply R.eq4); focus ((repeat' (first | with_reducible assumption | with_reducible apply hU | ((with_reducible apply SqT.of); with_reducible assumption) | ((with_reducible apply same_seqT); with_reducible assumption) | ((with_reducible apply kp_seqT); with_reducible assumption) | ((with_reducible apply Dw.same); with_reducible assumption))); done))
        | ((with_reducible apply R.eq3); focus ((repeat' (first | with_reducible assumption | with_reducible apply hU | ((with_reducible apply SqT.of); with_reducible assumption) | ((with_reducible apply same_seqT); with_reducible assumption) | ((with_reducible apply kp_seqT); with_reducible assumption) | ((with_reducible apply Dw.same); with_reducible assumption))); done))
        | ((with_reducible apply R.eq2); focus ((repeat' (first | with_reducible assumption | with_reducible apply hU | ((with_reducible apply SqT.of); with_reducible assumption) | ((with_reducible apply same_seqT); with_reducible assumption) | ((with_reducible apply kp_seqT); with_reducible assumption) | ((with_reducible apply Dw.same); with_reducible assumption))); done))
        | with_reducible apply uLawNext
        | with_reducible apply uLawWide
        | ((with_reducible apply R.nw); intro HN tn sn ht)
        | with_reducible apply iteT
        | with_reducible apply iteF
        | with_reducible apply R.notT
        | with_reducible apply R.notF
        | ((with_reducible apply SqT.of); with_reducible assumption)
        | ((with_reducible apply SqL.of); with_reducible assumption)
        | ((with_reducible apply same_seqT); with_reducible assumption)
        | ((with_reducible apply sameB); with_reducible assumption)
        | ((with_reducible apply same_at); with_reducible assumption)
        | ((with_reducible apply kp_seqT); with_reducible assumption)
        | ((with_reducible apply Same.seq); with_reducible assumption)
        | ((with_reducible apply Kp.seqL); with_reducible assumption)
        | ((with_reducible apply fresh_ne); with_reducible assumption)
        | ((with_reducible apply Dw.same); with_reducible assumption)
        | ((with_reducible apply R.isEq); exact eq_true (by first | decide | omega))
        | ((with_reducible apply R.isLt); first | decide | omega)
        | ((with_reducible apply R.isLtI); first | decide | omega)
        | ((with_reducible apply R.isLeI); first | decide | omega)
        | ((with_reducible apply R.cdiv); exact rfl)
        | ((with_reducible apply R.cpow); exact rfl)
        | with_reducible apply R.cdivX
        | ((with_reducible apply R.isNe); omega)
        | with_reducible apply hU
        | ((with_reducible apply wayNF); first | exact rfl | exact ⟨rfl, rfl⟩ | exact ⟨rfl, rfl, rfl⟩ | exact ⟨rfl, rfl, rfl, rfl⟩)
        | with_reducible apply R.forE
        | with_reducible apply R.rng1
        | with_reducible apply R.rng2
        | with_reducible apply R.rg1
        | with_reducible apply R.rg2
        | with_reducible apply R.lcE
        | with_reducible apply R.itup
        | with_reducible apply R.ilst
        )
      intro r8 H11 r8a r8b d13 k13
      repeat' (first
        | with_reducible apply R.var
        | ((with_reducible apply R.isEq); exact rfl)
        | with_reducible apply R.op
        | with_reducible apply R.i2
        | with_reducible apply R.i0
        | with_reducible apply R.con
        | with_reducible apply R.cons
        | with_reducible apply R.nil
        | with_reducible apply R.gcons
        | with_reducible apply R.gname
        | ((with_reducible apply R.ixT); (focus ((repeat' (first | with_reducible assumption | with_reducible apply hU | ((with_reducible apply SqT.of); with_reducible assumption) | ((with_reducible apply same_seqT); with_reducible assumption) | ((with_reducible apply kp_seqT); with_reducible assumption) | ((with_reducible apply Dw.same); with_reducible assumption))); done)); exact rfl)
        | ((with_reducible apply R.ixL); (focus ((repeat' (first | with_reducible assumption | ((with_reducible apply SqL.of); with_reducible assumption) | ((with_reducible apply Same.seq); with_reducible assumption) | ((with_reducible apply Kp.seqL); with_reducible assumption) | ((with_reducible apply fresh_ne); with_reducible assumption) | ((with_reducible apply Dw.same); with_reducible assumption))); done)); exact rfl)
        | with_reducible assumption
        | with_reducible apply Bd.mulW
        | with_reducible apply Bd.mul
        | with_reducible apply Bd.add
        | with_reducible apply Bd.sub
        | ((with_reducible apply Bd.l8); exact eq_true (by decide))
        | ((with_reducible apply Bd.lit); exact eq_true (by decide))
        | with_reducible apply Bd.neg
        | with_reducible apply Bd.div
        | with_reducible apply Bd.abs
        | with_reducible apply Bd.mod
        | with_reducible apply Bd.fdiv
        | ((with_reducible apply Bd.om); omega)
        | ((with_reducible apply R.isLe); first | decide | omega)
        | with_reducible apply R.un
        | with_reducible apply R.u1
        | with_reducible apply R.tup
        | with_reducible apply R.lst
        | with_reducible apply R.call
        | with_reducible apply R.callB
        | with_reducible apply R.gtup
        | with_reducible apply R.gnil
        | with_reducible apply R.seq
        | with_reducible apply R.asg
        | with_reducible apply R.ret
        | with_reducible apply R.brk
        | with_reducible apply R.cont
        | with_reducible apply R.next
        | with_reducible apply R.drop
        | with_reducible apply R.par
        | with_reducible apply R.par2
        | with_reducible apply R.ifs
        | with_reducible apply R.tif
        | with_reducible apply R.test
        | with_reducible apply R.tb'
        | with_reducible apply R.isbl
        | with_reducible apply R.cmp
        | with_reducible apply R.t2i
        | with_reducible apply R.intp
        | with_reducible apply R.and
        | with_reducible apply R.or
        | with_reducible apply R.not
        | with_reducible apply R.andV
        | with_reducible apply R.orV
        | with_reducible apply R.notV
        | with_reducible apply R.chain
        | with_reducible apply R.tupL
        | with_reducible apply R.lstL
        | with_reducible apply R.cat
        | with_reducible apply R.absI
        | with_reducible apply R.intI
        | with_reducible apply R.intB
        | with_reducible apply R.eqS
        | with_reducible apply R.eqBl
        | with_reducible apply R.neBl
        | with_reducible apply R.sl
        | with_reducible apply R.noPart
        | with_reducible apply R.part
        | with_reducible apply R.isInt
        | with_reducible apply R.slL
        | with_reducible apply R.isiT
        | with_reducible apply R.isiLst
        | with_reducible apply R.nwT
        | with_reducible apply R.nwL
        | ((with_reducible apply R.mt); intro HN tn sn nn ht)
        | ((with_reducible apply R.ml); intro HN tn sn nn ht)
        | ((with_reducible apply R.isiTupS); focus ((repeat' (first | with_reducible assumption | with_reducible apply hU | ((with_reducible apply SqT.of); with_reducible assumption) | ((with_reducible apply same_seqT); with_reducible assumption) | ((with_reducible apply kp_seqT); with_reducible assumption) | ((with_reducible apply Dw.same); with_reducible assumption))); done))
        | ((with_reducible apply R.ne4); focus ((repeat' (first | with_reducible assumption | with_reducible apply hU | ((with_reducible apply SqT.of); with_reducible assumption) | ((with_reducible apply same_seqT); with_reducible assumption) | ((with_reducible apply kp_seqT); with_reducible assumption) | ((with_reducible apply Dw.same); with_reducible assumption))); done))
        | ((with_reducible apply R.ne3); focus ((repeat' (first | with_reducible assumption | with_reducible apply hU | ((with_reducible apply SqT.of); with_reducible assumption) | ((with_reducible apply same_seqT); with_reducible assumption) | ((with_reducible apply kp_seqT); with_reducible assumption) | ((with_reducible apply Dw.same); with_reducible assumption))); done))
        | ((with_reducible apply R.ne2); focus ((repeat' (first | with_reducible assumption | with_reducible apply hU | ((with_reducible apply SqT.of); with_reducible assumption) | ((with_reducible apply same_seqT); with_reducible assumption) | ((with_reducible apply kp_seqT); with_reducible assumption) | ((with_reducible apply Dw.same); with_reducible assumption))); done))
        | ((with_reducible apply R.eq4); focus ((repeat' (first | with_reducible assumption | with_reducible apply hU | ((with_reducible apply SqT.of); with_reducible assumption) | ((with_reducible apply same_seqT); with_reducible assumption) | ((with_reducible apply kp_seqT); with_reducible assumption) | ((with_reducible apply Dw.same); with_reducible assumption))); done))
        | ((with_reducible apply R.eq3); focus ((repeat' (first | with_reducible assumption | with_reducible apply hU | ((with_reducible apply SqT.of); with_reducible assumption) | ((with_reducible apply same_seqT); with_reducible assumption) | ((with_reducible apply kp_seqT); with_reducible assumption) | ((with_reducible apply Dw.same); with_reducible assumption))); done))
        | ((with_reducible apply R.eq2); focus ((repeat' (first | with_reducible assumption | with_reducible apply hU | ((with_reducible apply SqT.of); with_reducible assumption) | ((with_reducible apply same_seqT); with_reducible assumption) | ((with_reducible apply kp_seqT); with_reducible assumption) | ((with_reducible apply Dw.same); with_reducible assumption))); done))
        | with_reducible apply uLawNext
        | with_reducible apply uLawWide
        | ((with_reducible apply R.nw); intro HN tn sn ht)
        | with_reducible apply iteT
        | with_reducible apply iteF
        | with_reducible apply R.notT
        | with_reducible apply R.notF
        | ((with_reducible apply SqT.of); with_reducible assumption)
        | ((with_reducible apply SqL.of); with_reducible assumption)
        | ((with_reducible apply same_seqT); with_reducible assumption)
        | ((with_reducible apply sameB); with_reducible assumption)
        | ((with_reducible apply same_at); with_reducible assumption)
        | ((with_reducible apply kp_seqT); with_reducible assumption)
        | ((with_reducible apply Same.seq); with_reducible assumption)
        | ((with_reducible apply Kp.seqL); with_reducible assumption)
        | ((with_reducible apply fresh_ne); with_reducible assumption)
        | ((with_reducible apply Dw.same); with_reducible assumption)
        | ((with_reducible apply R.isEq); exact eq_true (by first | decide | omega))
        | ((with_reducible apply R.isLt); first | decide | omega)
        | ((with_reducible apply R.isLtI); first | decide | omega)
        | ((with_reducible apply R.isLeI); first | decide | omega)
        | ((with_reducible apply R.cdiv); exact rfl)
        | ((with_reducible apply R.cpow); exact rfl)
        | with_reducible apply R.cdivX
        | ((with_reducible apply R.isNe); omega)
        | with_reducible apply hU
        | ((with_reducible apply wayNF); first | exact rfl | exact ⟨rfl, rfl⟩ | exact ⟨rfl, rfl, rfl⟩ | exact ⟨rfl, rfl, rfl, rfl⟩)
        | with_reducible apply R.forE
        | with_reducible apply R.rng1
        | with_reducible apply R.rng2
        | with_reducible apply R.rg1
        | with_reducible apply R.rg2
        | with_reducible apply R.lcE
        | with_reducible apply R.itup
        | with_reducible apply R.ilst
        )
      refine way2 (fun e => ?_) (fun e => ?_)
      · skip
        repeat' (first
          | with_reducible apply R.var
          | ((with_reducible apply R.isEq); exact rfl)
          | with_reducible apply R.op
          | with_reducible apply R.i2
          | with_reducible apply R.i0
          | with_reducible apply R.con
          | with_reducible apply R.cons
          | with_reducible apply R.nil
          | with_reducible apply R.gcons
          | with_reducible apply R.gname
          | ((with_reducible apply R.ixT); (focus ((repeat' (first | with_reducible assumption | with_reducible apply hU | ((with_reducible apply SqT.of); with_reducible assumption) | ((with_reducible apply same_seqT); with_reducible assumption) | ((with_reducible apply kp_seqT); with_reducible assumption) | ((with_reducible apply Dw.same); with_reducible assumption))); done)); exact rfl)
          | ((with_reducible apply R.ixL); (focus ((repeat' (first | with_reducible assumption | ((with_reducible apply SqL.of); with_reducible assumption) | ((with_reducible apply Same.seq); with_reducible assumption) | ((with_reducible apply Kp.seqL); with_reducible assumption) | ((with_reducible apply fresh_ne); with_reducible assumption) | ((with_reducible apply Dw.same); with_reducible assumption))); done)); exact rfl)
          | with_reducible assumption
          | with_reducible apply Bd.mulW
          | with_reducible apply Bd.mul
          | with_reducible apply Bd.add
          | with_reducible apply Bd.sub
          | ((with_reducible apply Bd.l8); exact eq_true (by decide))
          | ((with_reducible apply Bd.lit); exact eq_true (by decide))
          | with_reducible apply Bd.neg
          | with_reducible apply Bd.div
          | with_reducible apply Bd.abs
          | with_reducible apply Bd.mod
          | with_reducible apply Bd.fdiv
          | ((with_reducible apply Bd.om); omega)
          | ((with_reducible apply R.isLe); first | decide | omega)
          | with_reducible apply R.un
          | with_reducible apply R.u1
          | with_reducible apply R.tup
          | with_reducible apply R.lst
          | with_reducible apply R.call
          | with_reducible apply R.callB
          | with_reducible apply R.gtup
          | with_reducible apply R.gnil
          | with_reducible apply R.seq
          | with_reducible apply R.asg
          | with_reducible apply R.ret
          | with_reducible apply R.brk
          | with_reducible apply R.cont
          | with_reducible apply R.next
          | with_reducible apply R.drop
          | with_reducible apply R.par
          | with_reducible apply R.par2
          | with_reducible apply R.ifs
          | with_reducible apply R.tif
          | with_reducible apply R.test
          | with_reducible apply R.tb'
          | with_reducible apply R.isbl
          | with_reducible apply R.cmp
          | with_reducible apply R.t2i
          | with_reducible apply R.intp
          | with_reducible apply R.and
          | with_reducible apply R.or
          | with_reducible apply R.not
          | with_reducible apply R.andV
          | with_reducible apply R.orV
          | with_reducible apply R.notV
          | with_reducible apply R.chain
          | with_reducible apply R.tupL
          | with_reducible apply R.lstL
          | with_reducible apply R.cat
          | with_reducible apply R.absI
          | with_reducible apply R.intI
          | with_reducible apply R.intB
          | with_reducible apply R.eqS
          | with_reducible apply R.eqBl
          | with_reducible apply R.neBl
          | with_reducible apply R.sl
          | with_reducible apply R.noPart
          | with_reducible apply R.part
          | with_reducible apply R.isInt
          | with_reducible apply R.slL
          | with_reducible apply R.isiT
          | with_reducible apply R.isiLst
          | with_reducible apply R.nwT
          | with_reducible apply R.nwL
          | ((with_reducible apply R.mt); intro HN tn sn nn ht)
          | ((with_reducible apply R.ml); intro HN tn sn nn ht)
          | ((with_reducible apply R.isiTupS); focus ((repeat' (first | with_reducible assumption | with_reducible apply hU | ((with_reducible apply SqT.of); with_reducible assumption) | ((with_reducible apply same_seqT); with_reducible assumption) | ((with_reducible apply kp_seqT); with_reducible assumption) | ((with_reducible apply Dw.same); with_reducible assumption))); done))
          | ((with_reducible apply R.ne4); focus ((repeat' (first | with_reducible assumption | with_reducible apply hU | ((with_reducible apply SqT.of); with_reducible assumption) | ((with_reducible apply same_seqT); with_reducible assumption) | ((with_reducible apply kp_seqT); with_reducible assumption) | ((with_reducible apply Dw.same); with_reducible assumption))); done))
          | ((with_reducible apply R.ne3); focus ((repeat' (first | with_reducible assumption | with_reducible apply hU | ((with_reducible apply SqT.of); with_reducible assumption) | ((with_reducible apply same_seqT); with_reducible assumption) | ((with_reducible apply kp_seqT); with_reducible assumption) | ((with_reducible apply Dw.same); with_reducible assumption))); done))
          | ((with_reducible apply R.ne2); focus ((repeat' (first | with_reducible assumption | with_reducible apply hU | ((with_reducible apply SqT.of); with_reducible assumption) | ((with_reducible apply same_seqT); with_reducible assumption) | ((with_reducible apply kp_seqT); with_reducible assumption) | ((with_reducible apply Dw.same); with_reducible assumption))); done))
          | ((with_reducible apply R.eq4); focus ((repeat' (first | with_reducible assumption | with_reducible apply hU | ((with_reducible apply SqT.of); with_reducible assumption) | ((with_reducible apply same_seqT); with_reducible assumption) | ((with_reducible apply kp_seqT); with_reducible assumption) | ((with_reducible apply Dw.same); with_reducible assumption))); done))
          | ((with_reducible apply R.eq3); focus ((repeat' (first | with_reducible assumption | with_reducible apply hU | ((with_reducible apply SqT.of); with_reducible assumption) | ((with_reducible apply same_seqT); with_reducible assumption) | ((with_reducible apply kp_seqT); with_reducible assumption) | ((with_reducible apply Dw.same); with_reducible assumption))); done))
          | ((with_reducible apply R.eq2); focus ((repeat' (first | with_reducible assumption | with_reducible apply hU | ((with_reducible apply SqT.of); with_reducible assumption) | ((with_reducible apply same_seqT); with_reducible assumption) | ((with_reducible apply kp_seqT); with_reducible assumption) | ((with_reducible apply Dw.same); with_reducible assumption))); done))
          | with_reducible apply uLawNext
          | with_reducible apply uLawWide
          | ((with_reducible apply R.nw); intro HN tn sn ht)
          | with_reducible apply iteT
          | with_reducible apply iteF
          | with_reducible apply R.notT
          | with_reducible apply R.notF
          | ((with_reducible apply SqT.of); with_reducible assumption)
          | ((with_reducible apply SqL.of); with_reducible assumption)
          | ((with_reducible apply same_seqT); with_reducible assumption)
          | ((with_reducible apply sameB); with_reducible assumption)
          | ((with_reducible apply same_at); with_reducible assumption)
          | ((with_reducible apply kp_seqT); with_reducible assumption)
          | ((with_reducible apply Same.seq); with_reducible assumption)
          | ((with_reducible apply Kp.seqL); with_reducible assumption)
          | ((with_reducible apply fresh_ne); with_reducible assumption)
          | ((with_reducible apply Dw.same); with_reducible assumption)
          | ((with_reducible apply R.isEq); exact eq_true (by first | decide | omega))
          | ((with_reducible apply R.isLt); first | decide | omega)
          | ((with_reducible apply R.isLtI); first | decide | omega)
          | ((with_reducible apply R.isLeI); first | decide | omega)
          | ((with_reducible apply R.cdiv); exact rfl)
          | ((with_reducible apply R.cpow); exact rfl)
          | with_reducible apply R.cdivX
          | ((with_reducible apply R.isNe); omega)
          | with_reducible apply hU
          | ((with_reducible apply wayNF); first | exact rfl | exact ⟨rfl, rfl⟩ | exact ⟨rfl, rfl, rfl⟩ | exact ⟨rfl, rfl, rfl, rfl⟩)
          | with_reducible apply R.forE
          | with_reducible apply R.rng1
          | with_reducible apply R.rng2
          | with_reducible apply R.rg1
          | with_reducible apply R.rg2
          | with_reducible apply R.lcE
          | with_reducible apply R.itup
          | with_reducible apply R.ilst
          )
        intro r9 H12 r9a r9b d14 k14
        repeat' (first
          | with_reducible apply R.var
          | ((with_reducible apply R.isEq); exact rfl)
          | with_reducible apply R.op
          | with_reducible apply R.i2
          | with_reducible apply R.i0
          | with_reducible apply R.con
          | with_reducible apply R.cons
          | with_reducible apply R.nil
          | with_reducible apply R.gcons
          | with_reducible apply R.gname
          | ((with_reducible apply R.ixT); (focus ((repeat' (first | with_reducible assumption | with_reducible apply hU | ((with_reducible apply SqT.of); with_reducible assumption) | ((with_reducible apply same_seqT); with_reducible assumption) | ((with_reducible apply kp_seqT); with_reducible assumption) | ((with_reducible apply Dw.same); with_reducible assumption))); done)); exact rfl)
          | ((with_reducible apply R.ixL); (focus ((repeat' (first | with_reducible assumption | ((with_reducible apply SqL.of); with_reducible assumption) | ((with_reducible apply Same.seq); with_reducible assumption) | ((with_reducible apply Kp.seqL); with_reducible assumption) | ((with_reducible apply fresh_ne); with_reducible assumption) | ((with_reducible apply Dw.same); with_reducible assumption))); done)); exact rfl)
          | with_reducible assumption
          | with_reducible apply Bd.mulW
          | with_reducible apply Bd.mul
          | with_reducible apply Bd.add
          | with_reducible apply Bd.sub
          | ((with_reducible apply Bd.l8); exact eq_true (by decide))
          | ((with_reducible apply Bd.lit); exact eq_true (by decide))
          | with_reducible apply Bd.neg
          | with_reducible apply Bd.div
          | with_reducible apply Bd.abs
          | with_reducible apply Bd.mod
          | with_reducible apply Bd.fdiv
          | ((with_reducible apply Bd.om); omega)
          | ((with_reducible apply R.isLe); first | decide | omega)
          | with_reducible apply R.un
          | with_reducible apply R.u1
          | with_reducible apply R.tup
          | with_reducible apply R.lst
          | with_reducible apply R.call
          | with_reducible apply R.callB
          | with_reducible apply R.gtup
          | with_reducible apply R.gnil
          | with_reducible apply R.seq
          | with_reducible apply R.asg
          | with_reducible apply R.ret
          | with_reducible apply R.brk
          | with_reducible apply R.cont
          | with_reducible apply R.next
          | with_reducible apply R.drop
          | with_reducible apply R.par
          | with_reducible apply R.par2
          | with_reducible apply R.ifs
          | with_reducible apply R.tif
          | with_reducible apply R.test
          | with_reducible apply R.tb'
          | with_reducible apply R.isbl
          | with_reducible apply R.cmp
          | with_reducible apply R.t2i
          | with_reducible apply R.intp
          | with_reducible apply R.and
          | with_reducible apply R.or
          | with_reducible apply R.not
          | with_reducible apply R.andV
          | with_reducible apply R.orV
          | with_reducible apply R.notV
          | with_reducible apply R.chain
          | with_reducible apply R.tupL
          | with_reducible apply R.lstL
          | with_reducible apply R.cat
          | with_reducible apply R.absI
          | with_reducible apply R.intI
          | with_reducible apply R.intB
          | with_reducible apply R.eqS
          | with_reducible apply R.eqBl
          | with_reducible apply R.neBl
          | with_reducible apply R.sl
          | with_reducible apply R.noPart
          | with_reducible apply R.part
          | with_reducible apply R.isInt
          | with_reducible apply R.slL
          | with_reducible apply R.isiT
          | with_reducible apply R.isiLst
          | with_reducible apply R.nwT
          | with_reducible apply R.nwL
          | ((with_reducible apply R.mt); intro HN tn sn nn ht)
          | ((with_reducible apply R.ml); intro HN tn sn nn ht)
          | ((with_reducible apply R.isiTupS); focus ((repeat' (first | with_reducible assumption | with_reducible apply hU | ((with_reducible apply SqT.of); with_reducible assumption) | ((with_reducible apply same_seqT); with_reducible assumption) | ((with_reducible apply kp_seqT); with_reducible assumption) | ((with_reducible apply Dw.same); with_reducible assumption))); done))
          | ((with_reducible apply R.ne4); focus ((repeat' (first | with_reducible assumption | with_reducible apply hU | ((with_reducible apply SqT.of); with_reducible assumption) | ((with_reducible apply same_seqT); with_reducible assumption) | ((with_reducible apply kp_seqT); with_reducible assumption) | ((with_reducible apply Dw.same); with_reducible assumption))); done))
          | ((with_reducible apply R.ne3); focus ((repeat' (first | with_reducible assumption | with_reducible apply hU | ((with_reducible apply SqT.of); with_reducible assumption) | ((with_reducible apply same_seqT); with_reducible assumption) | ((with_reducible apply kp_seqT); with_reducible assumption) | ((with_reducible apply Dw.same); with_reducible assumption))); done))
          | ((with_reducible apply R.ne2); focus ((repeat' (first | with_reducible assumption | with_reducible apply hU | ((with_reducible apply SqT.of); with_reducible assumption) | ((with_reducible apply same_seqT); with_reducible assumption) | ((with_reducible apply kp_seqT); with_reducible assumption) | ((with_reducible apply Dw.same); with_reducible assumption))); done))
          | ((with_reducible apply R.eq4); focus ((repeat' (first | with_reducible assumption | with_reducible apply hU | ((with_reducible apply SqT.of); with_reducible assumption) | ((with_reducible apply same_seqT); with_reducible assumption) | ((with_reducible apply kp_seqT); with_reducible assumption) | ((with_reducible apply Dw.same); with_reducible assumption))); done))
          | ((with_reducible apply R.eq3); focus ((repeat' (first | with_reducible assumption | with_reducible apply hU | ((with_reducible apply SqT.of); with_reducible assumption) | ((with_reducible apply same_seqT); with_reducible assumption) | ((with_reducible apply kp_seqT); with_reducible assumption) | ((with_reducible apply Dw.same); with_reducible assumption))); done))
          | ((with_reducible apply R.eq2); focus ((repeat' (first | with_reducible assumption | with_reducible apply hU | ((with_reducible apply SqT.of); with_reducible assumption) | ((with_reducible apply same_seqT); with_reducible assumption) | ((with_reducible apply kp_seqT); with_reducible assumption) | ((with_reducible apply Dw.same); with_reducible assumption))); done))
          | with_reducible apply uLawNext
          | with_reducible apply uLawWide
          | ((with_reducible apply R.nw); intro HN tn sn ht)
          | with_reducible apply iteT
          | with_reducible apply iteF
          | with_reducible apply R.notT
          | with_reducible apply R.notF
          | ((with_reducible apply SqT.of); with_reducible assumption)
          | ((with_reducible apply SqL.of); with_reducible assumption)
          | ((with_reducible apply same_seqT); with_reducible assumption)
          | ((with_reducible apply sameB); with_reducible assumption)
          | ((with_reducible apply same_at); with_reducible assumption)
          | ((with_reducible apply kp_seqT); with_reducible assumption)
          | ((with_reducible apply Same.seq); with_reducible assumption)
          | ((with_reducible apply Kp.seqL); with_reducible assumption)
          | ((with_reducible apply fresh_ne); with_reducible assumption)
          | ((with_reducible apply Dw.same); with_reducible assumption)
          | ((with_reducible apply R.isEq); exact eq_true (by first | decide | omega))
          | ((with_reducible apply R.isLt); first | decide | omega)
          | ((with_reducible apply R.isLtI); first | decide | omega)
          | ((with_reducible apply R.isLeI); first | decide | omega)
          | ((with_reducible apply R.cdiv); exact rfl)
          | ((with_reducible apply R.cpow); exact rfl)
          | with_reducible apply R.cdivX
          | ((with_reducible apply R.isNe); omega)
          | with_reducible apply hU
          | ((with_reducible apply wayNF); first | exact rfl | exact ⟨rfl, rfl⟩ | exact ⟨rfl, rfl, rfl⟩ | exact ⟨rfl, rfl, rfl, rfl⟩)
          | with_reducible apply R.forE
          | with_reducible apply R.rng1
          | with_reducible apply R.rng2
          | with_reducible apply R.rg1
          | with_reducible apply R.rg2
          | with_reducible apply R.lcE
          | with_reducible apply R.itup
          | with_reducible apply R.ilst
          )
        exact ⟨_, _, _, _, rfl, by omega, by omega, d14⟩
      · skip
        repeat' (first
          | with_reducible apply R.var
          | ((with_reducible apply R.isEq); exact rfl)
          | with_reducible apply R.op
          | with_reducible apply R.i2
          | with_reducible apply R.i0
          | with_reducible apply R.con
          | with_reducible apply R.cons
          | with_reducible apply R.nil
          | with_reducible apply R.gcons
          | with_reducible apply R.gname
          | ((with_reducible apply R.ixT); (focus ((repeat' (first | with_reducible assumption | with_reducible apply hU | ((with_reducible apply SqT.of); with_reducible assumption) | ((with_reducible apply same_seqT); with_reducible assumption) | ((with_reducible apply kp_seqT); with_reducible assumption) | ((with_reducible apply Dw.same); with_reducible assumption))); done)); exact rfl)
          | ((with_reducible apply R.ixL); (focus ((repeat' (first | with_reducible assumption | ((with_reducible apply SqL.of); with_reducible assumption) | ((with_reducible apply Same.seq); with_reducible assumption) | ((with_reducible apply Kp.seqL); with_reducible assumption) | ((with_reducible apply fresh_ne); with_reducible assumption) | ((with_reducible apply Dw.same); with_reducible assumption))); done)); exact rfl)
          | with_reducible assumption
          | with_reducible apply Bd.mulW
          | with_reducible apply Bd.mul
          | with_reducible apply Bd.add
          | with_reducible apply Bd.sub
          | ((with_reducible apply Bd.l8); exact eq_true (by decide))
          | ((with_reducible apply Bd.lit); exact eq_true (by decide))
          | with_reducible apply Bd.neg
          | with_reducible apply Bd.div
          | with_reducible apply Bd.abs
          | with_reducible apply Bd.mod
          | with_reducible apply Bd.fdiv
          | ((with_reducible apply Bd.om); omega)
          | ((with_reducible apply R.isLe); first | decide | omega)
          | with_reducible apply R.un
          | with_reducible apply R.u1
          | with_reducible apply R.tup
          | with_reducible apply R.lst
          | with_reducible apply R.call
          | with_reducible apply R.callB
          | with_reducible apply R.gtup
          | with_reducible apply R.gnil
          | with_reducible apply R.seq
          | with_reducible apply R.asg
          | with_reducible apply R.ret
          | with_reducible apply R.brk
          | with_reducible apply R.cont
          | with_reducible apply R.next
          | with_reducible apply R.drop
          | with_reducible apply R.par
          | with_reducible apply R.par2
          | with_reducible apply R.ifs
          | with_reducible apply R.tif
          | with_reducible apply R.test
          | with_reducible apply R.tb'
          | with_reducible apply R.isbl
          | with_reducible apply R.cmp
          | with_reducible apply R.t2i
          | with_reducible apply R.intp
          | with_reducible apply R.and
          | with_reducible apply R.or
          | with_reducible apply R.not
          | with_reducible apply R.andV
          | with_reducible apply R.orV
          | with_reducible apply R.notV
          | with_reducible apply R.chain
          | with_reducible apply R.tupL
          | with_reducible apply R.lstL
          | with_reducible apply R.cat
          | with_reducible apply R.absI
          | with_reducible apply R.intI
          | with_reducible apply R.intB
          | with_reducible apply R.eqS
          | with_reducible apply R.eqBl
          | with_reducible apply R.neBl
          | with_reducible apply R.sl
          | with_reducible apply R.noPart
          | with_reducible apply R.part
          | with_reducible apply R.isInt
          | with_reducible apply R.slL
          | with_reducible apply R.isiT
          | with_reducible apply R.isiLst
          | with_reducible apply R.nwT
          | with_reducible apply R.nwL
          | ((with_reducible apply R.mt); intro HN tn sn nn ht)
          | ((with_reducible apply R.ml); intro HN tn sn nn ht)
          | ((with_reducible apply R.isiTupS); focus ((repeat' (first | with_reducible assumption | with_reducible apply hU | ((with_reducible apply SqT.of); with_reducible assumption) | ((with_reducible apply same_seqT); with_reducible assumption) | ((with_reducible apply kp_seqT); with_reducible assumption) | ((with_reducible apply Dw.same); with_reducible assumption))); done))
          | ((with_reducible apply R.ne4); focus ((repeat' (first | with_reducible assumption | with_reducible apply hU | ((with_reducible apply SqT.of); with_reducible assumption) | ((with_reducible apply same_seqT); with_reducible assumption) | ((with_reducible apply kp_seqT); with_reducible assumption) | ((with_reducible apply Dw.same); with_reducible assumption))); done))
          | ((with_reducible apply R.ne3); focus ((repeat' (first | with_reducible assumption | with_reducible apply hU | ((with_reducible apply SqT.of); with_reducible assumption) | ((with_reducible apply same_seqT); with_reducible assumption) | ((with_reducible apply kp_seqT); with_reducible assumption) | ((with_reducible apply Dw.same); with_reducible assumption))); done))
          | ((with_reducible apply R.ne2); focus ((repeat' (first | with_reducible assumption | with_reducible apply hU | ((with_reducible apply SqT.of); with_reducible assumption) | ((with_reducible apply same_seqT); with_reducible assumption) | ((with_reducible apply kp_seqT); with_reducible assumption) | ((with_reducible apply Dw.same); with_reducible assumption))); done))
          | ((with_reducible apply R.eq4); focus ((repeat' (first | with_reducible assumption | with_reducible apply hU | ((with_reducible apply SqT.of); with_reducible assumption) | ((with_reducible apply same_seqT); with_reducible assumption) | ((with_reducible apply kp_seqT); with_reducible assumption) | ((with_reducible apply Dw.same); with_reducible assumption))); done))
          | ((with_reducible apply R.eq3); focus ((repeat' (first | with_reducible assumption | with_reducible apply hU | ((with_reducible apply SqT.of); with_reducible assumption) | ((with_reducible apply same_seqT); with_reducible assumption) | ((with_reducible apply kp_seqT); with_reducible assumption) | ((with_reducible apply Dw.same); with_reducible assumption))); done))
          | ((with_reducible apply R.eq2); focus ((repeat' (first | with_reducible assumption | with_reducible apply hU | ((with_reducible apply SqT.of); with_reducible assumption) | ((with_reducible apply same_seqT); with_reducible assumption) | ((with_reducible apply kp_seqT); with_reducible assumption) | ((with_reducible apply Dw.same); with_reducible assumption))); done))
          | with_reducible apply uLawNext
          | with_reducible apply uLawWide
          | ((with_reducible apply R.nw); intro HN tn sn ht)
          | with_reducible apply iteT
          | with_reducible apply iteF
          | with_reducible apply R.notT
          | with_reducible apply R.notF
          | ((with_reducible apply SqT.of); with_reducible assumption)
          | ((with_reducible apply SqL.of); with_reducible assumption)
          | ((with_reducible apply same_seqT); with_reducible assumption)
          | ((with_reducible apply sameB); with_reducible assumption)
          | ((with_reducible apply same_at); with_reducible assumption)
          | ((with_reducible apply kp_seqT); with_reducible assumption)
          | ((with_reducible apply Same.seq); with_reducible assumption)
          | ((with_reducible apply Kp.seqL); with_reducible assumption)
          | ((with_reducible apply fresh_ne); with_reducible assumption)
          | ((with_reducible apply Dw.same); with_reducible assumption)
          | ((with_reducible apply R.isEq); exact eq_true (by first | decide | omega))
          | ((with_reducible apply R.isLt); first | decide | omega)
          | ((with_reducible apply R.isLtI); first | decide | omega)
          | ((with_reducible apply R.isLeI); first | decide | omega)
          | ((with_reducible apply R.cdiv); exact rfl)
          | ((with_reducible apply R.cpow); exact rfl)
          | with_reducible apply R.cdivX
          | ((with_reducible apply R.isNe); omega)
          | with_reducible apply hU
          | ((with_reducible apply wayNF); first | exact rfl | exact ⟨rfl, rfl⟩ | exact ⟨rfl, rfl, rfl⟩ | exact ⟨rfl, rfl, rfl, rfl⟩)
          | with_reducible apply R.forE
          | with_reducible apply R.rng1
          | with_reducible apply R.rng2
          | with_reducible apply R.rg1
          | with_reducible apply R.rg2
          | with_reducible apply R.lcE
          | with_reducible apply R.itup
          | with_reducible apply R.ilst
          )
        exact ⟨_, _, _, _, rfl, hq, by omega, d13⟩
    clear hq hN d12
    obtain ⟨x6, x8, q, N, rfl, hq, hN, d12⟩ := hMid
    have hd60 : d < 2 ^ 60 := by
      show d < 1152921504606846976
      omega
    have p60 : pv.natAbs < 2 ^ 60 := by
      show pv.natAbs < 1152921504606846976
      omega
    have bpv : Bd 60 pv := p60
    have bq : Bd 60 q := by
      show q.natAbs < 1152921504606846976
      omega
    repeat' (first
      | with_reducible apply R.var
      | ((with_reducible apply R.isEq); exact rfl)
      | with_reducible apply R.op
      | with_reducible apply R.i2
      | with_reducible apply R.i0
      | with_reducible apply R.con
      | with_reducible apply R.cons
      | with_reducible apply R.nil
      | with_reducible apply R.gcons
      | with_reducible apply R.gname
      | ((with_reducible apply R.ixT); (focus ((repeat' (first | with_reducible assumption | with_reducible apply hU | ((with_reducible apply SqT.of); with_reducible assumption) | ((with_reducible apply same_seqT); with_reducible assumption) | ((with_reducible apply kp_seqT); with_reducible assumption) | ((with_reducible apply Dw.same); with_reducible assumption))); done)); exact rfl)
      | ((with_reducible apply R.ixL); (focus ((repeat' (first | with_reducible assumption | ((with_reducible apply SqL.of); with_reducible assumption) | ((with_reducible apply Same.seq); with_reducible assumption) | ((with_reducible apply Kp.seqL); with_reducible assumption) | ((with_reducible apply fresh_ne); with_reducible assumption) | ((with_reducible apply Dw.same); with_reducible assumption))); done)); exact rfl)
      | with_reducible assumption
      | with_reducible apply Bd.mulW
      | with_reducible apply Bd.mul
      | with_reducible apply Bd.add
      | with_reducible apply Bd.sub
      | ((with_reducible apply Bd.l8); exact eq_true (by decide))
      | ((with_reducible apply Bd.lit); exact eq_true (by decide))
      | with_reducible apply Bd.neg
      | with_reducible apply Bd.div
      | with_reducible apply Bd.abs
      | with_reducible apply Bd.mod
      | with_reducible apply Bd.fdiv
      | ((with_reducible apply Bd.om); omega)
      | ((with_reducible apply R.isLe); first | decide | omega)
      | with_reducible apply R.un
      | with_reducible apply R.u1
      | with_reducible apply R.tup
      | with_reducible apply R.lst
      | with_reducible apply R.call
      | with_reducible apply R.callB
      | with_reducible apply R.gtup
      | with_reducible apply R.gnil
      | with_reducible apply R.seq
      | with_reducible apply R.asg
      | with_reducible apply R.ret
      | with_reducible apply R.brk
      | with_reducible apply R.cont
      | with_reducible apply R.next
      | with_reducible apply R.drop
      | with_reducible apply R.par
      | with_reducible apply R.par2
      | with_reducible apply R.ifs
      | with_reducible apply R.tif
      | with_reducible apply R.test
      | with_reducible apply R.tb'
      | with_reducible apply R.isbl
      | with_reducible apply R.cmp
      | with_reducible apply R.t2i
      | with_reducible apply R.intp
      | with_reducible apply R.and
      | with_reducible apply R.or
      | with_reducible apply R.not
      | with_reducible apply R.andV
      | with_reducible apply R.orV
      | with_reducible apply R.notV
      | with_reducible apply R.chain
      | with_reducible apply R.tupL
      | with_reducible apply R.lstL
      | with_reducible apply R.cat
      | with_reducible apply R.absI
      | with_reducible apply R.intI
      | with_reducible apply R.intB
      | with_reducible apply R.eqS
      | with_reducible apply R.eqBl
      | with_reducible apply R.neBl
      | with_reducible apply R.sl
      | with_reducible apply R.noPart
      | with_reducible apply R.part
      | with_reducible apply R.isInt
      | with_reducible apply R.slL
      | with_reducible apply R.isiT
      | with_reducible apply R.isiLst
      | with_reducible apply R.nwT
      | with_reducible apply R.nwL
      | ((with_reducible apply R.mt); intro HN tn sn nn ht)
      | ((with_reducible apply R.ml); intro HN tn sn nn ht)
      | ((with_reducible apply R.isiTupS); focus ((repeat' (first | with_reducible assumption | with_reducible apply hU | ((with_reducible apply SqT.of); with_reducible assumption) | ((with_reducible apply same_seqT); with_reducible assumption) | ((with_reducible apply kp_seqT); with_reducible assumption) | ((with_reducible apply Dw.same); with_reducible assumption))); done))
      | ((with_reducible apply R.ne4); focus ((repeat' (first | with_reducible assumption | with_reducible apply hU | ((with_reducible apply SqT.of); with_reducible assumption) | ((with_reducible apply same_seqT); with_reducible assumption) | ((with_reducible apply kp_seqT); with_reducible assumption) | ((with_reducible apply Dw.same); with_reducible assumption))); done))
      | ((with_reducible apply R.ne3); focus ((repeat' (first | with_reducible assumption | with_reducible apply hU | ((with_reducible apply SqT.of); with_reducible assumption) | ((with_reducible apply same_seqT); with_reducible assumption) | ((with_reducible apply kp_seqT); with_reducible assumption) | ((with_reducible apply Dw.same); with_reducible assumption))); done))
      | ((with_reducible apply R.ne2); focus ((repeat' (first | with_reducible assumption | with_reducible apply hU | ((with_reducible apply SqT.of); with_reducible assumption) | ((with_reducible apply same_seqT); with_reducible assumption) | ((with_reducible apply kp_seqT); with_reducible assumption) | ((with_reducible apply Dw.same); with_reducible assumption))); done))
      | ((with_reducible apply R.eq4); focus ((repeat' (first | with_reducible assumption | with_reducible apply hU | ((with_reducible apply SqT.of); with_reducible assumption) | ((with_reducible apply same_seqT); with_reducible assumption) | ((with_reducible apply kp_seqT); with_reducible assumption) | ((with_reducible apply Dw.same); with_reducible assumption))); done))
      | ((with_reducible apply R.eq3); focus ((repeat' (first | with_reducible assumption | with_reducible apply hU | ((with_reducible apply SqT.of); with_reducible assumption) | ((with_reducible apply same_seqT); with_reducible assumption) | ((with_reducible apply kp_seqT); with_reducible assumption) | ((with_reducible apply Dw.same); with_reducible assumption))); done))
      | ((with_reducible apply R.eq2); focus ((repeat' (first | with_reducible assumption | with_reducible apply hU | ((with_reducible apply SqT.of); with_reducible assumption) | ((with_reducible apply same_seqT); with_reducible assumption) | ((with_reducible apply kp_seqT); with_reducible assumption) | ((with_reducible apply Dw.same); with_reducible assumption))); done))
      | with_reducible apply uLawNext
      | with_reducible apply uLawWide
      | ((with_reducible apply R.nw); intro HN tn sn ht)
      | with_reducible apply iteT
      | with_reducible apply iteF
      | with_reducible apply R.notT
      | with_reducible apply R.notF
      | ((with_reducible apply SqT.of); with_reducible assumption)
      | ((with_reducible apply SqL.of); with_reducible assumption)
      | ((with_reducible apply same_seqT); with_reducible assumption)
      | ((with_reducible apply sameB); with_reducible assumption)
      | ((with_reducible apply same_at); with_reducible assumption)
      | ((with_reducible apply kp_seqT); with_reducible assumption)
      | ((with_reducible apply Same.seq); with_reducible assumption)
      | ((with_reducible apply Kp.seqL); with_reducible assumption)
      | ((with_reducible apply fresh_ne); with_reducible assumption)
      | ((with_reducible apply Dw.same); with_reducible assumption)
      | ((with_reducible apply R.isEq); exact eq_true (by first | decide | omega))
      | ((with_reducible apply R.isLt); first | decide | omega)
      | ((with_reducible apply R.isLtI); first | decide | omega)
      | ((with_reducible apply R.isLeI); first | decide | omega)
      | ((with_reducible apply R.cdiv); exact rfl)
      | ((with_reducible apply R.cpow); exact rfl)
      | with_reducible apply R.cdivX
      | ((with_reducible apply R.isNe); omega)
      | with_reducible apply hU
      | ((with_reducible apply wayNF); first | exact rfl | exact ⟨rfl, rfl⟩ | exact ⟨rfl, rfl, rfl⟩ | exact ⟨rfl, rfl, rfl, rfl⟩)
      | with_reducible apply R.forE
      | with_reducible apply R.rng1
      | with_reducible apply R.rng2
      | with_reducible apply R.rg1
      | with_reducible apply R.rg2
      | with_reducible apply R.lcE
      | with_reducible apply R.itup
      | with_reducible apply R.ilst
      )
    subst hsq
    refine way2 (fun z => ?_) (fun z => ?_)
    · skip
      repeat' (first
        | with_reducible apply R.var
        | ((with_reducible apply R.isEq); exact rfl)
        | with_reducible apply R.op
        | with_reducible apply R.i2
        | with_reducible apply R.i0
        | with_reducible apply R.con
        | with_reducible apply R.cons
        | with_reducible apply R.nil
        | with_reducible apply R.gcons
        | with_reducible apply R.gname
        | ((with_reducible apply R.ixT); (focus ((repeat' (first | with_reducible assumption | with_reducible apply hU | ((with_reducible apply SqT.of); with_reducible assumption) | ((with_reducible apply same_seqT); with_reducible assumption) | ((with_reducible apply kp_seqT); with_reducible assumption) | ((with_reducible apply Dw.same); with_reducible assumption))); done)); exact rfl)
        | ((with_reducible apply R.ixL); (focus ((repeat' (first | with_reducible assumption | ((with_reducible apply SqL.of); with_reducible assumption) | ((with_reducible apply Same.seq); with_reducible assumption) | ((with_reducible apply Kp.seqL); with_reducible assumption) | ((with_reducible apply fresh_ne); with_reducible assumption) | ((with_reducible apply Dw.same); with_reducible assumption))); done)); exact rfl)
        | with_reducible assumption
        | with_reducible apply Bd.mulW
        | with_reducible apply Bd.mul
        | with_reducible apply Bd.add
        | with_reducible apply Bd.sub
        | ((with_reducible apply Bd.l8); exact eq_true (by decide))
        | ((with_reducible apply Bd.lit); exact eq_true (by decide))
        | with_reducible apply Bd.neg
        | with_reducible apply Bd.div
        | with_reducible apply Bd.abs
        | with_reducible apply Bd.mod
        | with_reducible apply Bd.fdiv
        | ((with_reducible apply Bd.om); omega)
        | ((with_reducible apply R.isLe); first | decide | omega)
        | with_reducible apply R.un
        | with_reducible apply R.u1
        | with_reducible apply R.tup
        | with_reducible apply R.lst
        | with_reducible apply R.call
        | with_reducible apply R.callB
        | with_reducible apply R.gtup
        | with_reducible apply R.gnil
        | with_reducible apply R.seq
        | with_reducible apply R.asg
        | with_reducible apply R.ret
        | with_reducible apply R.brk
        | with_reducible apply R.cont
        | with_reducible apply R.next
        | with_reducible apply R.drop
        | with_reducible apply R.par
        | with_reducible apply R.par2
        | with_reducible apply R.ifs
        | with_reducible apply R.tif
        | with_reducible apply R.test
        | with_reducible apply R.tb'
        | with_reducible apply R.isbl
        | with_reducible apply R.cmp
        | with_reducible apply R.t2i
        | with_reducible apply R.intp
        | with_reducible apply R.and
        | with_reducible apply R.or
        | with_reducible apply R.not
        | with_reducible apply R.andV
        | with_reducible apply R.orV
        | with_reducible apply R.notV
        | with_reducible apply R.chain
        | with_reducible apply R.tupL
        | with_reducible apply R.lstL
        | with_reducible apply R.cat
        | with_reducible apply R.absI
        | with_reducible apply R.intI
        | with_reducible apply R.intB
        | with_reducible apply R.eqS
        | with_reducible apply R.eqBl
        | with_reducible apply R.neBl
        | with_reducible apply R.sl
        | with_reducible apply R.noPart
        | with_reducible apply R.part
        | with_reducible apply R.isInt
        | with_reducible apply R.slL
        | with_reducible apply R.isiT
        | with_reducible apply R.isiLst
        | with_reducible apply R.nwT
        | with_reducible apply R.nwL
        | ((with_reducible apply R.mt); intro HN tn sn nn ht)
        | ((with_reducible apply R.ml); intro HN tn sn nn ht)
        | ((with_reducible apply R.isiTupS); focus ((repeat' (first | with_reducible assumption | with_reducible apply hU | ((with_reducible apply SqT.of); with_reducible assumption) | ((with_reducible apply same_seqT); with_reducible assumption) | ((with_reducible apply kp_seqT); with_reducible assumption) | ((with_reducible apply Dw.same); with_reducible assumption))); done))
        | ((with_reducible apply R.ne4); focus ((repeat' (first | with_reducible assumption | with_reducible apply hU | ((with_reducible apply SqT.of); with_reducible assumption) | ((with_reducible apply same_seqT); with_reducible assumption) | ((with_reducible apply kp_seqT); with_reducible assumption) | ((with_reducible apply Dw.same); with_reducible assumption))); done))
        | ((with_reducible apply R.ne3); focus ((repeat' (first | with_reducible assumption | with_reducible apply hU | ((with_reducible apply SqT.of); with_reducible assumption) | ((with_reducible apply same_seqT); with_reducible assumption) | ((with_reducible apply kp_seqT); with_reducible assumption) | ((with_reducible apply Dw.same); with_reducible assumption))); done))
        | ((with_reducible apply R.ne2); focus ((repeat' (first | with_reducible assumption | with_reducible apply hU | ((with_reducible apply SqT.of); with_reducible assumption) | ((with_reducible apply same_seqT); with_reducible assumption) | ((with_reducible apply kp_seqT); with_reducible assumption) | ((with_reducible apply Dw.same); with_reducible assumption))); done))
        | ((with_reducible apply R.eq4); focus ((repeat' (first | with_reducible assumption | with_reducible apply hU | ((with_reducible apply SqT.of); with_reducible assumption) | ((with_reducible apply same_seqT); with_reducible assumption) | ((with_reducible apply kp_seqT); with_reducible assumption) | ((with_reducible apply Dw.same); with_reducible assumption))); done))
        | ((with_reducible apply R.eq3); focus ((repeat' (first | with_reducible assumption | with_reducible apply hU | ((with_reducible apply SqT.of); with_reducible assumption) | ((with_reducible apply same_seqT); with_reducible assumption) | ((with_reducible apply kp_seqT); with_reducible assumption) | ((with_reducible apply Dw.same); with_reducible assumption))); done))
        | ((with_reducible apply R.eq2); focus ((repeat' (first | with_reducible assumption | with_reducible apply hU | ((with_reducible apply SqT.of); with_reducible assumption) | ((with_reducible apply same_seqT); with_reducible assumption) | ((with_reducible apply kp_seqT); with_reducible assumption) | ((with_reducible apply Dw.same); with_reducible assumption))); done))
        | with_reducible apply uLawNext
        | with_reducible apply uLawWide
        | ((with_reducible apply R.nw); intro HN tn sn ht)
        | with_reducible apply iteT
        | with_reducible apply iteF
        | with_reducible apply R.notT
        | with_reducible apply R.notF
        | ((with_reducible apply SqT.of); with_reducible assumption)
        | ((with_reducible apply SqL.of); with_reducible assumption)
        | ((with_reducible apply same_seqT); with_reducible assumption)
        | ((with_reducible apply sameB); with_reducible assumption)
        | ((with_reducible apply same_at); with_reducible assumption)
        | ((with_reducible apply kp_seqT); with_reducible assumption)
        | ((with_reducible apply Same.seq); with_reducible assumption)
        | ((with_reducible apply Kp.seqL); with_reducible assumption)
        | ((with_reducible apply fresh_ne); with_reducible assumption)
        | ((with_reducible apply Dw.same); with_reducible assumption)
        | ((with_reducible apply R.isEq); exact eq_true (by first | decide | omega))
        | ((with_reducible apply R.isLt); first | decide | omega)
        | ((with_reducible apply R.isLtI); first | decide | omega)
        | ((with_reducible apply R.isLeI); first | decide | omega)
        | ((with_reducible apply R.cdiv); exact rfl)
        | ((with_reducible apply R.cpow); exact rfl)
        | with_reducible apply R.cdivX
        | ((with_reducible apply R.isNe); omega)
        | with_reducible apply hU
        | ((with_reducible apply wayNF); first | exact rfl | exact ⟨rfl, rfl⟩ | exact ⟨rfl, rfl, rfl⟩ | exact ⟨rfl, rfl, rfl, rfl⟩)
        | with_reducible apply R.forE
        | with_reducible apply R.rng1
        | with_reducible apply R.rng2
        | with_reducible apply R.rg1
        | with_reducible apply R.rg2
        | with_reducible apply R.lcE
        | with_reducible apply R.itup
        | with_reducible apply R.ilst
        )
      exact ⟨pv, q, d, rfl, p60, hd0, hd60, .inl (by rw [hroot]; exact z), fun H' => qq H'⟩
    repeat' (first
      | with_reducible apply R.var
      | ((with_reducible apply R.isEq); exact rfl)
      | with_reducible apply R.op
      | with_reducible apply R.i2
      | with_reducible apply R.i0
      | with_reducible apply R.con
      | with_reducible apply R.cons
      | with_reducible apply R.nil
      | with_reducible apply R.gcons
      | with_reducible apply R.gname
      | ((with_reducible apply R.ixT); (focus ((repeat' (first | with_reducible assumption | with_reducible apply hU | ((with_reducible apply SqT.of); with_reducible assumption) | ((with_reducible apply same_seqT); with_reducible assumption) | ((with_reducible apply kp_seqT); with_reducible assumption) | ((with_reducible apply Dw.same); with_reducible assumption))); done)); exact rfl)
      | ((with_reducible apply R.ixL); (focus ((repeat' (first | with_reducible assumption | ((with_reducible apply SqL.of); with_reducible assumption) | ((with_reducible apply Same.seq); with_reducible assumption) | ((with_reducible apply Kp.seqL); with_reducible assumption) | ((with_reducible apply fresh_ne); with_reducible assumption) | ((with_reducible apply Dw.same); with_reducible assumption))); done)); exact rfl)
      | with_reducible assumption
      | with_reducible apply Bd.mulW
      | with_reducible apply Bd.mul
      | with_reducible apply Bd.add
      | with_reducible apply Bd.sub
      | ((with_reducible apply Bd.l8); exact eq_true (by decide))
      | ((with_reducible apply Bd.lit); exact eq_true (by decide))
      | with_reducible apply Bd.neg
      | with_reducible apply Bd.div
      | with_reducible apply Bd.abs
      | with_reducible apply Bd.mod
      | with_reducible apply Bd.fdiv
      | ((with_reducible apply Bd.om); omega)
      | ((with_reducible apply R.isLe); first | decide | omega)
      | with_reducible apply R.un
      | with_reducible apply R.u1
      | with_reducible apply R.tup
      | with_reducible apply R.lst
      | with_reducible apply R.call
      | with_reducible apply R.callB
      | with_reducible apply R.gtup
      | with_reducible apply R.gnil
      | with_reducible apply R.seq
      | with_reducible apply R.asg
      | with_reducible apply R.ret
      | with_reducible apply R.brk
      | with_reducible apply R.cont
      | with_reducible apply R.next
      | with_reducible apply R.drop
      | with_reducible apply R.par
      | with_reducible apply R.par2
      | with_reducible apply R.ifs
      | with_reducible apply R.tif
      | with_reducible apply R.test
      | with_reducible apply R.tb'
      | with_reducible apply R.isbl
      | with_reducible apply R.cmp
      | with_reducible apply R.t2i
      | with_reducible apply R.intp
      | with_reducible apply R.and
      | with_reducible apply R.or
      | with_reducible apply R.not
      | with_reducible apply R.andV
      | with_reducible apply R.orV
      | with_reducible apply R.notV
      | with_reducible apply R.chain
      | with_reducible apply R.tupL
      | with_reducible apply R.lstL
      | with_reducible apply R.cat
      | with_reducible apply R.absI
      | with_reducible apply R.intI
      | with_reducible apply R.intB
      | with_reducible apply R.eqS
      | with_reducible apply R.eqBl
      | with_reducible apply R.neBl
      | with_reducible apply R.sl
      | with_reducible apply R.noPart
      | with_reducible apply R.part
      | with_reducible apply R.isInt
      | with_reducible apply R.slL
      | with_reducible apply R.isiT
      | with_reducible apply R.isiLst
      | with_reducible apply R.nwT
      | with_reducible apply R.nwL
      | ((with_reducible apply R.mt); intro HN tn sn nn ht)
      | ((with_reducible apply R.ml); intro HN tn sn nn ht)
      | ((with_reducible apply R.isiTupS); focus ((repeat' (first | with_reducible assumption | with_reducible apply hU | ((with_reducible apply SqT.of); with_reducible assumption) | ((with_reducible apply same_seqT); with_reducible assumption) | ((with_reducible apply kp_seqT); with_reducible assumption) | ((with_reducible apply Dw.same); with_reducible assumption))); done))
      | ((with_reducible apply R.ne4); focus ((repeat' (first | with_reducible assumption | with_reducible apply hU | ((with_reducible apply SqT.of); with_reducible assumption) | ((with_reducible apply same_seqT); with_reducible assumption) | ((with_reducible apply kp_seqT); with_reducible assumption) | ((with_reducible apply Dw.same); with_reducible assumption))); done))
      | ((with_reducible apply R.ne3); focus ((repeat' (first | with_reducible assumption | with_reducible apply hU | ((with_reducible apply SqT.of); with_reducible assumption) | ((with_reducible apply same_seqT); with_reducible assumption) | ((with_reducible apply kp_seqT); with_reducible assumption) | ((with_reducible apply Dw.same); with_reducible assumption))); done))
      | ((with_reducible apply R.ne2); focus ((repeat' (first | with_reducible assumption | with_reducible apply hU | ((with_reducible apply SqT.of); with_reducible assumption) | ((with_reducible apply same_seqT); with_reducible assumption) | ((with_reducible apply kp_seqT); with_reducible assumption) | ((with_reducible apply Dw.same); with_reducible assumption))); done))
      | ((with_reducible apply R.eq4); focus ((repeat' (first | with_reducible assumption | with_reducible apply hU | ((with_reducible apply SqT.of); with_reducible assumption) | ((with_reducible apply same_seqT); with_reducible assumption) | ((with_reducible apply kp_seqT); with_reducible assumption) | ((with_reducible apply Dw.same); with_reducible assumption))); done))
      | ((with_reducible apply R.eq3); focus ((repeat' (first | with_reducible assumption | with_reducible apply hU | ((with_reducible apply SqT.of); with_reducible assumption) | ((with_reducible apply same_seqT); with_reducible assumption) | ((with_reducible apply kp_seqT); with_reducible assumption) | ((with_reducible apply Dw.same); with_reducible assumption))); done))
      | ((with_reducible apply R.eq2); focus ((repeat' (first | with_reducible assumption | with_reducible apply hU | ((with_reducible apply SqT.of); with_reducible assumption) | ((with_reducible apply same_seqT); with_reducible assumption) | ((with_reducible apply kp_seqT); with_reducible assumption) | ((with_reducible apply Dw.same); with_reducible assumption))); done))
      | with_reducible apply uLawNext
      | with_reducible apply uLawWide
      | ((with_reducible apply R.nw); intro HN tn sn ht)
      | with_reducible apply iteT
      | with_reducible apply iteF
      | with_reducible apply R.notT
      | with_reducible apply R.notF
      | ((with_reducible apply SqT.of); with_reducible assumption)
      | ((with_reducible apply SqL.of); with_reducible assumption)
      | ((with_reducible apply same_seqT); with_reducible assumption)
      | ((with_reducible apply sameB); with_reducible assumption)
      | ((with_reducible apply same_at); with_reducible assumption)
      | ((with_reducible apply kp_seqT); with_reducible assumption)
      | ((with_reducible apply Same.seq); with_reducible assumption)
      | ((with_reducible apply Kp.seqL); with_reducible assumption)
      | ((with_reducible apply fresh_ne); with_reducible assumption)
      | ((with_reducible apply Dw.same); with_reducible assumption)
      | ((with_reducible apply R.isEq); exact eq_true (by first | decide | omega))
      | ((with_reducible apply R.isLt); first | decide | omega)
      | ((with_reducible apply R.isLtI); first | decide | omega)
      | ((with_reducible apply R.isLeI); first | decide | omega)
      | ((with_reducible apply R.cdiv); exact rfl)
      | ((with_reducible apply R.cpow); exact rfl)
      | with_reducible apply R.cdivX
      | ((with_reducible apply R.isNe); omega)
      | with_reducible apply hU
      | ((with_reducible apply wayNF); first | exact rfl | exact ⟨rfl, rfl⟩ | exact ⟨rfl, rfl, rfl⟩ | exact ⟨rfl, rfl, rfl, rfl⟩)
      | with_reducible apply R.forE
      | with_reducible apply R.rng1
      | with_reducible apply R.rng2
      | with_reducible apply R.rg1
      | with_reducible apply R.rg2
      | with_reducible apply R.lcE
      | with_reducible apply R.itup
      | with_reducible apply R.ilst
      )
    refine way2 (fun hq0 => ?_) (fun hq0 => ?_)
    · skip
      repeat' (first
        | with_reducible apply R.var
        | ((with_reducible apply R.isEq); exact rfl)
        | with_reducible apply R.op
        | with_reducible apply R.i2
        | with_reducible apply R.i0
        | with_reducible apply R.con
        | with_reducible apply R.cons
        | with_reducible apply R.nil
        | with_reducible apply R.gcons
        | with_reducible apply R.gname
        | ((with_reducible apply R.ixT); (focus ((repeat' (first | with_reducible assumption | with_reducible apply hU | ((with_reducible apply SqT.of); with_reducible assumption) | ((with_reducible apply same_seqT); with_reducible assumption) | ((with_reducible apply kp_seqT); with_reducible assumption) | ((with_reducible apply Dw.same); with_reducible assumption))); done)); exact rfl)
        | ((with_reducible apply R.ixL); (focus ((repeat' (first | with_reducible assumption | ((with_reducible apply SqL.of); with_reducible assumption) | ((with_reducible apply Same.seq); with_reducible assumption) | ((with_reducible apply Kp.seqL); with_reducible assumption) | ((with_reducible apply fresh_ne); with_reducible assumption) | ((with_reducible apply Dw.same); with_reducible assumption))); done)); exact rfl)
        | with_reducible assumption
        | with_reducible apply Bd.mulW
        | with_reducible apply Bd.mul
        | with_reducible apply Bd.add
        | with_reducible apply Bd.sub
        | ((with_reducible apply Bd.l8); exact eq_true (by decide))
        | ((with_reducible apply Bd.lit); exact eq_true (by decide))
        | with_reducible apply Bd.neg
        | with_reducible apply Bd.div
        | with_reducible apply Bd.abs
        | with_reducible apply Bd.mod
        | with_reducible apply Bd.fdiv
        | ((with_reducible apply Bd.om); omega)
        | ((with_reducible apply R.isLe); first | decide | omega)
        | with_reducible apply R.un
        | with_reducible apply R.u1
        | with_reducible apply R.tup
        | with_reducible apply R.lst
        | with_reducible apply R.call
        | with_reducible apply R.callB
        | with_reducible apply R.gtup
        | with_reducible apply R.gnil
        | with_reducible apply R.seq
        | with_reducible apply R.asg
        | with_reducible apply R.ret
        | with_reducible apply R.brk
        | with_reducible apply R.cont
        | with_reducible apply R.next
        | with_reducible apply R.drop
        | with_reducible apply R.par
        | with_reducible apply R.par2
        | with_reducible apply R.ifs
        | with_reducible apply R.tif
        | with_reducible apply R.test
        | with_reducible apply R.tb'
        | with_reducible apply R.isbl
        | with_reducible apply R.cmp
        | with_reducible apply R.t2i
        | with_reducible apply R.intp
        | with_reducible apply R.and
        | with_reducible apply R.or
        | with_reducible apply R.not
        | with_reducible apply R.andV
        | with_reducible apply R.orV
        | with_reducible apply R.notV
        | with_reducible apply R.chain
        | with_reducible apply R.tupL
        | with_reducible apply R.lstL
        | with_reducible apply R.cat
        | with_reducible apply R.absI
        | with_reducible apply R.intI
        | with_reducible apply R.intB
        | with_reducible apply R.eqS
        | with_reducible apply R.eqBl
        | with_reducible apply R.neBl
        | with_reducible apply R.sl
        | with_reducible apply R.noPart
        | with_reducible apply R.part
        | with_reducible apply R.isInt
        | with_reducible apply R.slL
        | with_reducible apply R.isiT
        | with_reducible apply R.isiLst
        | with_reducible apply R.nwT
        | with_reducible apply R.nwL
        | ((with_reducible apply R.mt); intro HN tn sn nn ht)
        | ((with_reducible apply R.ml); intro HN tn sn nn ht)
        | ((with_reducible apply R.isiTupS); focus ((repeat' (first | with_reducible assumption | with_reducible apply hU | ((with_reducible apply SqT.of); with_reducible assumption) | ((with_reducible apply same_seqT); with_reducible assumption) | ((with_reducible apply kp_seqT); with_reducible assumption) | ((with_reducible apply Dw.same); with_reducible assumption))); done))
        | ((with_reducible apply R.ne4); focus ((repeat' (first | with_reducible assumption | with_reducible apply hU | ((with_reducible apply SqT.of); with_reducible assumption) | ((with_reducible apply same_seqT); with_reducible assumption) | ((with_reducible apply kp_seqT); with_reducible assumption) | ((with_reducible apply Dw.same); with_reducible assumption))); done))
        | ((with_reducible apply R.ne3); focus ((repeat' (first | with_reducible assumption | with_reducible apply hU | ((with_reducible apply SqT.of); with_reducible assumption) | ((with_reducible apply same_seqT); with_reducible assumption) | ((with_reducible apply kp_seqT); with_reducible assumption) | ((with_reducible apply Dw.same); with_reducible assumption))); done))
        | ((with_reducible apply R.ne2); focus ((repeat' (first | with_reducible assumption | with_reducible apply hU | ((with_reducible apply SqT.of); with_reducible assumption) | ((with_reducible apply same_seqT); with_reducible assumption) | ((with_reducible apply kp_seqT); with_reducible assumption) | ((with_reducible apply Dw.same); with_reducible assumption))); done))
        | ((with_reducible apply R.eq4); focus ((repeat' (first | with_reducible assumption | with_reducible apply hU | ((with_reducible apply SqT.of); with_reducible assumption) | ((with_reducible apply same_seqT); with_reducible assumption) | ((with_reducible apply kp_seqT); with_reducible assumption) | ((with_reducible apply Dw.same); with_reducible assumption))); done))
        | ((with_reducible apply R.eq3); focus ((repeat' (first | with_reducible assumption | with_reducible apply hU | ((with_reducible apply SqT.of); with_reducible assumption) | ((with_reducible apply same_seqT); with_reducible assumption) | ((with_reducible apply kp_seqT); with_reducible assumption) | ((with_reducible apply Dw.same); with_reducible assumption))); done))
        | ((with_reducible apply R.eq2); focus ((repeat' (first | with_reducible assumption | with_reducible apply hU | ((with_reducible apply SqT.of); with_reducible assumption) | ((with_reducible apply same_seqT); with_reducible assumption) | ((with_reducible apply kp_seqT); with_reducible assumption) | ((with_reducible apply Dw.same); with_reducible assumption))); done))
        | with_reducible apply uLawNext
        | with_reducible apply uLawWide
        | ((with_reducible apply R.nw); intro HN tn sn ht)
        | with_reducible apply iteT
        | with_reducible apply iteF
        | with_reducible apply R.notT
        | with_reducible apply R.notF
        | ((with_reducible apply SqT.of); with_reducible assumption)
        | ((with_reducible apply SqL.of); with_reducible assumption)
        | ((with_reducible apply same_seqT); with_reducible assumption)
        | ((with_reducible apply sameB); with_reducible assumption)
        | ((with_reducible apply same_at); with_reducible assumption)
        | ((with_reducible apply kp_seqT); with_reducible assumption)
        | ((with_reducible apply Same.seq); with_reducible assumption)
        | ((with_reducible apply Kp.seqL); with_reducible assumption)
        | ((with_reducible apply fresh_ne); with_reducible assumption)
        | ((with_reducible apply Dw.same); with_reducible assumption)
        | ((with_reducible apply R.isEq); exact eq_true (by first | decide | omega))
        | ((with_reducible apply R.isLt); first | decide | omega)
        | ((with_reducible apply R.isLtI); first | decide | omega)
        | ((with_reducible apply R.isLeI); first | decide | omega)
        | ((with_reducible apply R.cdiv); exact rfl)
        | ((with_reducible apply R.cpow); exact rfl)
        | with_reducible apply R.cdivX
        | ((with_reducible apply R.isNe); omega)
        | with_reducible apply hU
        | ((with_reducible apply wayNF); first | exact rfl | exact ⟨rfl, rfl⟩ | exact ⟨rfl, rfl, rfl⟩ | exact ⟨rfl, rfl, rfl, rfl⟩)
        | with_reducible apply R.forE
        | with_reducible apply R.rng1
        | with_reducible apply R.rng2
        | with_reducible apply R.rg1
        | with_reducible apply R.rg2
        | with_reducible apply R.lcE
        | with_reducible apply R.itup
        | with_reducible apply R.ilst
        )
      exact ⟨pv, q, d, rfl, p60, hd0, hd60, .inr (.inl hq0), fun H' => qq H'⟩
    repeat' (first
      | with_reducible apply R.var
      | ((with_reducible apply R.isEq); exact rfl)
      | with_reducible apply R.op
      | with_reducible apply R.i2
      | with_reducible apply R.i0
      | with_reducible apply R.con
      | with_reducible apply R.cons
      | with_reducible apply R.nil
      | with_reducible apply R.gcons
      | with_reducible apply R.gname
      | ((with_reducible apply R.ixT); (focus ((repeat' (first | with_reducible assumption | with_reducible apply hU | ((with_reducible apply SqT.of); with_reducible assumption) | ((with_reducible apply same_seqT); with_reducible assumption) | ((with_reducible apply kp_seqT); with_reducible assumption) | ((with_reducible apply Dw.same); with_reducible assumption))); done)); exact rfl)
      | ((with_reducible apply R.ixL); (focus ((repeat' (first | with_reducible assumption | ((with_reducible apply SqL.of); with_reducible assumption) | ((with_reducible apply Same.seq); with_reducible assumption) | ((with_reducible apply Kp.seqL); with_reducible assumption) | ((with_reducible apply fresh_ne); with_reducible assumption) | ((with_reducible apply Dw.same); with_reducible assumption))); done)); exact rfl)
      | with_reducible assumption
      | with_reducible apply Bd.mulW
      | with_reducible apply Bd.mul
      | with_reducible apply Bd.add
      | with_reducible apply Bd.sub
      | ((with_reducible apply Bd.l8); exact eq_true (by decide))
      | ((with_reducible apply Bd.lit); exact eq_true (by decide))
      | with_reducible apply Bd.neg
      | with_reducible apply Bd.div
      | with_reducible apply Bd.abs
      | with_reducible apply Bd.mod
      | with_reducible apply Bd.fdiv
      | ((with_reducible apply Bd.om); omega)
      | ((with_reducible apply R.isLe); first | decide | omega)
      | with_reducible apply R.un
      | with_reducible apply R.u1
      | with_reducible apply R.tup
      | with_reducible apply R.lst
      | with_reducible apply R.call
      | with_reducible apply R.callB
      | with_reducible apply R.gtup
      | with_reducible apply R.gnil
      | with_reducible apply R.seq
      | with_reducible apply R.asg
      | with_reducible apply R.ret
      | with_reducible apply R.brk
      | with_reducible apply R.cont
      | with_reducible apply R.next
      | with_reducible apply R.drop
      | with_reducible apply R.par
      | with_reducible apply R.par2
      | with_reducible apply R.ifs
      | with_reducible apply R.tif
      | with_reducible apply R.test
      | with_reducible apply R.tb'
      | with_reducible apply R.isbl
      | with_reducible apply R.cmp
      | with_reducible apply R.t2i
      | with_reducible apply R.intp
      | with_reducible apply R.and
      | with_reducible apply R.or
      | with_reducible apply R.not
      | with_reducible apply R.andV
      | with_reducible apply R.orV
      | with_reducible apply R.notV
      | with_reducible apply R.chain
      | with_reducible apply R.tupL
      | with_reducible apply R.lstL
      | with_reducible apply R.cat
      | with_reducible apply R.absI
      | with_reducible apply R.intI
      | with_reducible apply R.intB
      | with_reducible apply R.eqS
      | with_reducible apply R.eqBl
      | with_reducible apply R.neBl
      | with_reducible apply R.sl
      | with_reducible apply R.noPart
      | with_reducible apply R.part
      | with_reducible apply R.isInt
      | with_reducible apply R.slL
      | with_reducible apply R.isiT
      | with_reducible apply R.isiLst
      | with_reducible apply R.nwT
      | with_reducible apply R.nwL
      | ((with_reducible apply R.mt); intro HN tn sn nn ht)
      | ((with_reducible apply R.ml); intro HN tn sn nn ht)
      | ((with_reducible apply R.isiTupS); focus ((repeat' (first | with_reducible assumption | with_reducible apply hU | ((with_reducible apply SqT.of); with_reducible assumption) | ((with_reducible apply same_seqT); with_reducible assumption) | ((with_reducible apply kp_seqT); with_reducible assumption) | ((with_reducible apply Dw.same); with_reducible assumption))); done))
      | ((with_reducible apply R.ne4); focus ((repeat' (first | with_reducible assumption | with_reducible apply hU | ((with_reducible apply SqT.of); with_reducible assumption) | ((with_reducible apply same_seqT); with_reducible assumption) | ((with_reducible apply kp_seqT); with_reducible assumption) | ((with_reducible apply Dw.same); with_reducible assumption))); done))
      | ((with_reducible apply R.ne3); focus ((repeat' (first | with_reducible assumption | with_reducible apply hU | ((with_reducible apply SqT.of); with_reducible assumption) | ((with_reducible apply same_seqT); with_reducible assumption) | ((with_reducible apply kp_seqT); with_reducible assumption) | ((with_reducible apply Dw.same); with_reducible assumption))); done))
      | ((with_reducible apply R.ne2); focus ((repeat' (first | with_reducible assumption | with_reducible apply hU | ((with_reducible apply SqT.of); with_reducible assumption) | ((with_reducible apply same_seqT); with_reducible assumption) | ((with_reducible apply kp_seqT); with_reducible assumption) | ((with_reducible apply Dw.same); with_reducible assumption))); done))
      | ((with_reducible apply R.eq4); focus ((repeat' (first | with_reducible assumption | with_reducible apply hU | ((with_reducible apply SqT.of); with_reducible assumption) | ((with_reducible apply same_seqT); with_reducible assumption) | ((with_reducible apply kp_seqT); with_reducible assumption) | ((with_reducible apply Dw.same); with_reducible assumption))); done))
      | ((with_reducible apply R.eq3); focus ((repeat' (first | with_reducible assumption | with_reducible apply hU | ((with_reducible apply SqT.of); with_reducible assumption) | ((with_reducible apply same_seqT); with_reducible assumption) | ((with_reducible apply kp_seqT); with_reducible assumption) | ((with_reducible apply Dw.same); with_reducible assumption))); done))
      | ((with_reducible apply R.eq2); focus ((repeat' (first | with_reducible assumption | with_reducible apply hU | ((with_reducible apply SqT.of); with_reducible assumption) | ((with_reducible apply same_seqT); with_reducible assumption) | ((with_reducible apply kp_seqT); with_reducible assumption) | ((with_reducible apply Dw.same); with_reducible assumption))); done))
      | with_reducible apply uLawNext
      | with_reducible apply uLawWide
      | ((with_reducible apply R.nw); intro HN tn sn ht)
      | with_reducible apply iteT
      | with_reducible apply iteF
      | with_reducible apply R.notT
      | with_reducible apply R.notF
      | ((with_reducible apply SqT.of); with_reducible assumption)
      | ((with_reducible apply SqL.of); with_reducible assumption)
      | ((with_reducible apply same_seqT); with_reducible assumption)
      | ((with_reducible apply sameB); with_reducible assumption)
      | ((with_reducible apply same_at); with_reducible assumption)
      | ((with_reducible apply kp_seqT); with_reducible assumption)
      | ((with_reducible apply Same.seq); with_reducible assumption)
      | ((with_reducible apply Kp.seqL); with_reducible assumption)
      | ((with_reducible apply fresh_ne); with_reducible assumption)
      | ((with_reducible apply Dw.same); with_reducible assumption)
      | ((with_reducible apply R.isEq); exact eq_true (by first | decide | omega))
      | ((with_reducible apply R.isLt); first | decide | omega)
      | ((with_reducible apply R.isLtI); first | decide | omega)
      | ((with_reducible apply R.isLeI); first | decide | omega)
      | ((with_reducible apply R.cdiv); exact rfl)
      | ((with_reducible apply R.cpow); exact rfl)
      | with_reducible apply R.cdivX
      | ((with_reducible apply R.isNe); omega)
      | with_reducible apply hU
      | ((with_reducible apply wayNF); first | exact rfl | exact ⟨rfl, rfl⟩ | exact ⟨rfl, rfl, rfl⟩ | exact ⟨rfl, rfl, rfl, rfl⟩)
      | with_reducible apply R.forE
      | with_reducible apply R.rng1
      | with_reducible apply R.rng2
      | with_reducible apply R.rg1
      | with_reducible apply R.rg2
      | with_reducible apply R.lcE
      | with_reducible apply R.itup
      | with_reducible apply R.ilst
      )
    refine wayN2 (fun h9 => ?_) (fun h9 => ?_)
    · skip
      repeat' (first
        | with_reducible apply R.var
        | ((with_reducible apply R.isEq); exact rfl)
        | with_reducible apply R.op
        | with_reducible apply R.i2
        | with_reducible apply R.i0
        | with_reducible apply R.con
        | with_reducible apply R.cons
        | with_reducible apply R.nil
        | with_reducible apply R.gcons
        | with_reducible apply R.gname
        | ((with_reducible apply R.ixT); (focus ((repeat' (first | with_reducible assumption | with_reducible apply hU | ((with_reducible apply SqT.of); with_reducible assumption) | ((with_reducible apply same_seqT); with_reducible assumption) | ((with_reducible apply kp_seqT); with_reducible assumption) | ((with_reducible apply Dw.same); with_reducible assumption))); done)); exact rfl)
        | ((with_reducible apply R.ixL); (focus ((repeat' (first | with_reducible assumption | ((with_reducible apply SqL.of); with_reducible assumption) | ((with_reducible apply Same.seq); with_reducible assumption) | ((with_reducible apply Kp.seqL); with_reducible assumption) | ((with_reducible apply fresh_ne); with_reducible assumption) | ((with_reducible apply Dw.same); with_reducible assumption))); done)); exact rfl)
        | with_reducible assumption
        | with_reducible apply Bd.mulW
        | with_reducible apply Bd.mul
        | with_reducible apply Bd.add
        | with_reducible apply Bd.sub
        | ((with_reducible apply Bd.l8); exact eq_true (by decide))
        | ((with_reducible apply Bd.lit); exact eq_true (by decide))
        | with_reducible apply Bd.neg
        | with_reducible apply Bd.div
        | with_reducible apply Bd.abs
        | with_reducible apply Bd.mod
        | with_reducible apply Bd.fdiv
        | ((with_reducible apply Bd.om); omega)
        | ((with_reducible apply R.isLe); first | decide | omega)
        | with_reducible apply R.un
        | with_reducible apply R.u1
        | with_reducible apply R.tup
        | with_reducible apply R.lst
        | with_reducible apply R.call
        | with_reducible apply R.callB
        | with_reducible apply R.gtup
        | with_reducible apply R.gnil
        | with_reducible apply R.seq
        | with_reducible apply R.asg
        | with_reducible apply R.ret
        | with_reducible apply R.brk
        | with_reducible apply R.cont
        | with_reducible apply R.next
        | with_reducible apply R.drop
        | with_reducible apply R.par
        | with_reducible apply R.par2
        | with_reducible apply R.ifs
        | with_reducible apply R.tif
        | with_reducible apply R.test
        | with_reducible apply R.tb'
        | with_reducible apply R.isbl
        | with_reducible apply R.cmp
        | with_reducible apply R.t2i
        | with_reducible apply R.intp
        | with_reducible apply R.and
        | with_reducible apply R.or
        | with_reducible apply R.not
        | with_reducible apply R.andV
        | with_reducible apply R.orV
        | with_reducible apply R.notV
        | with_reducible apply R.chain
        | with_reducible apply R.tupL
        | with_reducible apply R.lstL
        | with_reducible apply R.cat
        | with_reducible apply R.absI
        | with_reducible apply R.intI
        | with_reducible apply R.intB
        | with_reducible apply R.eqS
        | with_reducible apply R.eqBl
        | with_reducible apply R.neBl
        | with_reducible apply R.sl
        | with_reducible apply R.noPart
        | with_reducible apply R.part
        | with_reducible apply R.isInt
        | with_reducible apply R.slL
        | with_reducible apply R.isiT
        | with_reducible apply R.isiLst
        | with_reducible apply R.nwT
        | with_reducible apply R.nwL
        | ((with_reducible apply R.mt); intro HN tn sn nn ht)
        | ((with_reducible apply R.ml); intro HN tn sn nn ht)
        | ((with_reducible apply R.isiTupS); focus ((repeat' (first | with_reducible assumption | with_reducible apply hU | ((with_reducible apply SqT.of); with_reducible assumption) | ((with_reducible apply same_seqT); with_reducible assumption) | ((with_reducible apply kp_seqT); with_reducible assumption) | ((with_reducible apply Dw.same); with_reducible assumption))); done))
        | ((with_reducible apply R.ne4); focus ((repeat' (first | with_reducible assumption | with_reducible apply hU | ((with_reducible apply SqT.of); with_reducible assumption) | ((with_reducible apply same_seqT); with_reducible assumption) | ((with_reducible apply kp_seqT); with_reducible assumption) | ((with_reducible apply Dw.same); with_reducible assumption))); done))
        | ((with_reducible apply R.ne3); focus ((repeat' (first | with_reducible assumption | with_reducible apply hU | ((with_reducible apply SqT.of); with_reducible assumption) | ((with_reducible apply same_seqT); with_reducible assumption) | ((with_reducible apply kp_seqT); with_reducible assumption) | ((with_reducible apply Dw.same); with_reducible assumption))); done))
        | ((with_reducible apply R.ne2); focus ((repeat' (first | with_reducible assumption | with_reducible apply hU | ((with_reducible apply SqT.of); with_reducible assumption) | ((with_reducible apply same_seqT); with_reducible assumption) | ((with_reducible apply kp_seqT); with_reducible assumption) | ((with_reducible apply Dw.same); with_reducible assumption))); done))
        | ((with_reducible apply R.eq4); focus ((repeat' (first | with_reducible assumption | with_reducible apply hU | ((with_reducible apply SqT.of); with_reducible assumption) | ((with_reducible apply same_seqT); with_reducible assumption) | ((with_reducible apply kp_seqT); with_reducible assumption) | ((with_reducible apply Dw.same); with_reducible assumption))); done))
        | ((with_reducible apply R.eq3); focus ((repeat' (first | with_reducible assumption | with_reducible apply hU | ((with_reducible apply SqT.of); with_reducible assumption) | ((with_reducible apply same_seqT); with_reducible assumption) | ((with_reducible apply kp_seqT); with_reducible assumption) | ((with_reducible apply Dw.same); with_reducible assumption))); done))
        | ((with_reducible apply R.eq2); focus ((repeat' (first | with_reducible assumption | with_reducible apply hU | ((with_reducible apply SqT.of); with_reducible assumption) | ((with_reducible apply same_seqT); with_reducible assumption) | ((with_reducible apply kp_seqT); with_reducible assumption) | ((with_reducible apply Dw.same); with_reducible assumption))); done))
        | with_reducible apply uLawNext
        | with_reducible apply uLawWide
        | ((with_reducible apply R.nw); intro HN tn sn ht)
        | with_reducible apply iteT
        | with_reducible apply iteF
        | with_reducible apply R.notT
        | with_reducible apply R.notF
        | ((with_reducible apply SqT.of); with_reducible assumption)
        | ((with_reducible apply SqL.of); with_reducible assumption)
        | ((with_reducible apply same_seqT); with_reducible assumption)
        | ((with_reducible apply sameB); with_reducible assumption)
        | ((with_reducible apply same_at); with_reducible assumption)
        | ((with_reducible apply kp_seqT); with_reducible assumption)
        | ((with_reducible apply Same.seq); with_reducible assumption)
        | ((with_reducible apply Kp.seqL); with_reducible assumption)
        | ((with_reducible apply fresh_ne); with_reducible assumption)
        | ((with_reducible apply Dw.same); with_reducible assumption)
        | ((with_reducible apply R.isEq); exact eq_true (by first | decide | omega))
        | ((with_reducible apply R.isLt); first | decide | omega)
        | ((with_reducible apply R.isLtI); first | decide | omega)
        | ((with_reducible apply R.isLeI); first | decide | omega)
        | ((with_reducible apply R.cdiv); exact rfl)
        | ((with_reducible apply R.cpow); exact rfl)
        | with_reducible apply R.cdivX
        | ((with_reducible apply R.isNe); omega)
        | with_reducible apply hU
        | ((with_reducible apply wayNF); first | exact rfl | exact ⟨rfl, rfl⟩ | exact ⟨rfl, rfl, rfl⟩ | exact ⟨rfl, rfl, rfl, rfl⟩)
        | with_reducible apply R.forE
        | with_reducible apply R.rng1
        | with_reducible apply R.rng2
        | with_reducible apply R.rg1
        | with_reducible apply R.rg2
        | with_reducible apply R.lcE
        | with_reducible apply R.itup
        | with_reducible apply R.ilst
        )
      exact ⟨pv, q, d, rfl, p60, hd0, hd60, .inr (.inr h9), fun H' => qq H'⟩
    repeat' (first
      | with_reducible apply R.var
      | ((with_reducible apply R.isEq); exact rfl)
      | with_reducible apply R.op
      | with_reducible apply R.i2
      | with_reducible apply R.i0
      | with_reducible apply R.con
      | with_reducible apply R.cons
      | with_reducible apply R.nil
      | with_reducible apply R.gcons
      | with_reducible apply R.gname
      | ((with_reducible apply R.ixT); (focus ((repeat' (first | with_reducible assumption | with_reducible apply hU | ((with_reducible apply SqT.of); with_reducible assumption) | ((with_reducible apply same_seqT); with_reducible assumption) | ((with_reducible apply kp_seqT); with_reducible assumption) | ((with_reducible apply Dw.same); with_reducible assumption))); done)); exact rfl)
      | ((with_reducible apply R.ixL); (focus ((repeat' (first | with_reducible assumption | ((with_reducible apply SqL.of); with_reducible assumption) | ((with_reducible apply Same.seq); with_reducible assumption) | ((with_reducible apply Kp.seqL); with_reducible assumption) | ((with_reducible apply fresh_ne); with_reducible assumption) | ((with_reducible apply Dw.same); with_reducible assumption))); done)); exact rfl)
      | with_reducible assumption
      | with_reducible apply Bd.mulW
      | with_reducible apply Bd.mul
      | with_reducible apply Bd.add
      | with_reducible apply Bd.sub
      | ((with_reducible apply Bd.l8); exact eq_true (by decide))
      | ((with_reducible apply Bd.lit); exact eq_true (by decide))
      | with_reducible apply Bd.neg
      | with_reducible apply Bd.div
      | with_reducible apply Bd.abs
      | with_reducible apply Bd.mod
      | with_reducible apply Bd.fdiv
      | ((with_reducible apply Bd.om); omega)
      | ((with_reducible apply R.isLe); first | decide | omega)
      | with_reducible apply R.un
      | with_reducible apply R.u1
      | with_reducible apply R.tup
      | with_reducible apply R.lst
      | with_reducible apply R.call
      | with_reducible apply R.callB
      | with_reducible apply R.gtup
      | with_reducible apply R.gnil
      | with_reducible apply R.seq
      | with_reducible apply R.asg
      | with_reducible apply R.ret
      | with_reducible apply R.brk
      | with_reducible apply R.cont
      | with_reducible apply R.next
      | with_reducible apply R.drop
      | with_reducible apply R.par
      | with_reducible apply R.par2
      | with_reducible apply R.ifs
      | with_reducible apply R.tif
      | with_reducible apply R.test
      | with_reducible apply R.tb'
      | with_reducible apply R.isbl
      | with_reducible apply R.cmp
      | with_reducible apply R.t2i
      | with_reducible apply R.intp
      | with_reducible apply R.and
      | with_reducible apply R.or
      | with_reducible apply R.not
      | with_reducible apply R.andV
      | with_reducible apply R.orV
      | with_reducible apply R.notV
      | with_reducible apply R.chain
      | with_reducible apply R.tupL
      | with_reducible apply R.lstL
      | with_reducible apply R.cat
      | with_reducible apply R.absI
      | with_reducible apply R.intI
      | with_reducible apply R.intB
      | with_reducible apply R.eqS
      | with_reducible apply R.eqBl
      | with_reducible apply R.neBl
      | with_reducible apply R.sl
      | with_reducible apply R.noPart
      | with_reducible apply R.part
      | with_reducible apply R.isInt
      | with_reducible apply R.slL
      | with_reducible apply R.isiT
      | with_reducible apply R.isiLst
      | with_reducible apply R.nwT
      | with_reducible apply R.nwL
      | ((with_reducible apply R.mt); intro HN tn sn nn ht)
      | ((with_reducible apply R.ml); intro HN tn sn nn ht)
      | ((with_reducible apply R.isiTupS); focus ((repeat' (first | with_reducible assumption | with_reducible apply hU | ((with_reducible apply SqT.of); with_reducible assumption) | ((with_reducible apply same_seqT); with_reducible assumption) | ((with_reducible apply kp_seqT); with_reducible assumption) | ((with_reducible apply Dw.same); with_reducible assumption))); done))
      | ((with_reducible apply R.ne4); focus ((repeat' (first | with_reducible assumption | with_reducible apply hU | ((with_reducible apply SqT.of); with_reducible assumption) | ((with_reducible apply same_seqT); with_reducible assumption) | ((with_reducible apply kp_seqT); with_reducible assumption) | ((with_reducible apply Dw.same); with_reducible assumption))); done))
      | ((with_reducible apply R.ne3); focus ((repeat' (first | with_reducible assumption | with_reducible apply hU | ((with_reducible apply SqT.of); with_reducible assumption) | ((with_reducible apply same_seqT); with_reducible assumption) | ((with_reducible apply kp_seqT); with_reducible assumption) | ((with_reducible apply Dw.same); with_reducible assumption))); done))
      | ((with_reducible apply R.ne2); focus ((repeat' (first | with_reducible assumption | with_reducible apply hU | ((with_reducible apply SqT.of); with_reducible assumption) | ((with_reducible apply same_seqT); with_reducible assumption) | ((with_reducible apply kp_seqT); with_reducible assumption) | ((with_reducible apply Dw.same); with_reducible assumption))); done))
      | ((with_reducible apply R.eq4); focus ((repeat' (first | with_reducible assumption | with_reducible apply hU | ((with_reducible apply SqT.of); with_reducible assumption) | ((with_reducible apply same_seqT); with_reducible assumption) | ((with_reducible apply kp_seqT); with_reducible assumption) | ((with_reducible apply Dw.same); with_reducible assumption))); done))
      | ((with_reducible apply R.eq3); focus ((repeat' (first | with_reducible assumption | with_reducible apply hU | ((with_reducible apply SqT.of); with_reducible assumption) | ((with_reducible apply same_seqT); with_reducible assumption) | ((with_reducible apply kp_seqT); with_reducible assumption) | ((with_reducible apply Dw.same); with_reducible assumption))); done))
      | ((with_reducible apply R.eq2); focus ((repeat' (first | with_reducible assumption | with_reducible apply hU | ((with_reducible apply SqT.of); with_reducible assumption) | ((with_reducible apply same_seqT); with_reducible assumption) | ((with_reducible apply kp_seqT); with_reducible assumption) | ((with_reducible apply Dw.same); with_reducible assumption))); done))
      | with_reducible apply uLawNext
      | with_reducible apply uLawWide
      | ((with_reducible apply R.nw); intro HN tn sn ht)
      | with_reducible apply iteT
      | with_reducible apply iteF
      | with_reducible apply R.notT
      | with_reducible apply R.notF
      | ((with_reducible apply SqT.of); with_reducible assumption)
      | ((with_reducible apply SqL.of); with_reducible assumption)
      | ((with_reducible apply same_seqT); with_reducible assumption)
      | ((with_reducible apply sameB); with_reducible assumption)
      | ((with_reducible apply same_at); with_reducible assumption)
      | ((with_reducible apply kp_seqT); with_reducible assumption)
      | ((with_reducible apply Same.seq); with_reducible assumption)
      | ((with_reducible apply Kp.seqL); with_reducible assumption)
      | ((with_reducible apply fresh_ne); with_reducible assumption)
      | ((with_reducible apply Dw.same); with_reducible assumption)
      | ((with_reducible apply R.isEq); exact eq_true (by first | decide | omega))
      | ((with_reducible apply R.isLt); first | decide | omega)
      | ((with_reducible apply R.isLtI); first | decide | omega)
      | ((with_reducible apply R.isLeI); first | decide | omega)
      | ((with_reducible apply R.cdiv); exact rfl)
      | ((with_reducible apply R.cpow); exact rfl)
      | with_reducible apply R.cdivX
      | ((with_reducible apply R.isNe); omega)
      | with_reducible apply hU
      | ((with_reducible apply wayNF); first | exact rfl | exact ⟨rfl, rfl⟩ | exact ⟨rfl, rfl, rfl⟩ | exact ⟨rfl, rfl, rfl, rfl⟩)
      | with_reducible apply R.forE
      | with_reducible apply R.rng1
      | with_reducible apply R.rng2
      | with_reducible apply R.rg1
      | with_reducible apply R.rg2
      | with_reducible apply R.lcE
      | with_reducible apply R.itup
      | with_reducible apply R.ilst
      )
    obtain ⟨n, j, ex, hn2, hsz⟩ := ex_ok (p := pv) hd0 hd1 (by rw [hroot]; exact z) hq0 h9 hq hpv
    obtain ⟨_, _, hns, _, hdv0, hjn, hn, hrep, hun, hsz2⟩ := id ex
    have hns' := hns
    rw [hroot] at hns'
    rw [hroot] at hrep hun hsz hsz2
    have hq1 : ∀ i, i ≤ n → (cf d root (pv, q) i).2 ≠ 0 := fun i hi => (hsz2 i hi).2.2
    clear hsz2
    obtain ⟨f, hf⟩ : ∃ f, f = cf d root (pv, q) := ⟨_, rfl⟩
    have hf0 : f 0 = (pv, q) := by rw [hf]; rfl
    have hfs : ∀ i, f (i + 1) = nxt d root (f i) := fun i => by rw [hf]; rfl
    have hcfa : ∀ i, cfa d (pv, q) i = partI (f i).1 (f i).2 root := fun i => by
      unfold cfa
      rw [hroot, hf]
    rw [← hf] at hrep hun hsz hq1
    intro dp ndp
    have dpp : dp ≠ p := (d12.ne ndp).1
    have dpa : dp ≠ a := (d12.ne ndp).2
    have d13 := d12.new (o := .dT []) ndp
    have hdp0 : (upd H11 dp (.dT [])) dp = some (.dT []) := upd_same
    generalize upd H11 dp (.dT []) = H12 at d13 hdp0 ⊢
    apply R.gname
    apply R.seq
    apply R.asg
    apply R.lst
    apply R.nil
    apply R.nwL
    · exact rfl
    intro H13 pp s13 npp hpp0
    have ppp : pp ≠ p := (d13.ne npp).1
    have ppa : pp ≠ a := (d13.ne npp).2
    have dnp : dp ≠ pp := ne_of_none hdp0 npp
    have d14 := d13.same s13
    have hdp1 := s13 _ _ hdp0
    repeat' (first
      | with_reducible apply R.var
      | ((with_reducible apply R.isEq); exact rfl)
      | with_reducible apply R.op
      | with_reducible apply R.i2
      | with_reducible apply R.i0
      | with_reducible apply R.con
      | with_reducible apply R.cons
      | with_reducible apply R.nil
      | with_reducible apply R.gcons
      | with_reducible apply R.gname
      | ((with_reducible apply R.ixT); (focus ((repeat' (first | with_reducible assumption | with_reducible apply hU | ((with_reducible apply SqT.of); with_reducible assumption) | ((with_reducible apply same_seqT); with_reducible assumption) | ((with_reducible apply kp_seqT); with_reducible assumption) | ((with_reducible apply Dw.same); with_reducible assumption))); done)); exact rfl)
      | ((with_reducible apply R.ixL); (focus ((repeat' (first | with_reducible assumption | ((with_reducible apply SqL.of); with_reducible assumption) | ((with_reducible apply Same.seq); with_reducible assumption) | ((with_reducible apply Kp.seqL); with_reducible assumption) | ((with_reducible apply fresh_ne); with_reducible assumption) | ((with_reducible apply Dw.same); with_reducible assumption))); done)); exact rfl)
      | with_reducible assumption
      | with_reducible apply Bd.mulW
      | with_reducible apply Bd.mul
      | with_reducible apply Bd.add
      | with_reducible apply Bd.sub
      | ((with_reducible apply Bd.l8); exact eq_true (by decide))
      | ((with_reducible apply Bd.lit); exact eq_true (by decide))
      | with_reducible apply Bd.neg
      | with_reducible apply Bd.div
      | with_reducible apply Bd.abs
      | with_reducible apply Bd.mod
      | with_reducible apply Bd.fdiv
      | ((with_reducible apply Bd.om); omega)
      | ((with_reducible apply R.isLe); first | decide | omega)
      | with_reducible apply R.un
      | with_reducible apply R.u1
      | with_reducible apply R.tup
      | with_reducible apply R.lst
      | with_reducible apply R.call
      | with_reducible apply R.callB
      | with_reducible apply R.gtup
      | with_reducible apply R.gnil
      | with_reducible apply R.seq
      | with_reducible apply R.asg
      | with_reducible apply R.ret
      | with_reducible apply R.brk
      | with_reducible apply R.cont
      | with_reducible apply R.next
      | with_reducible apply R.drop
      | with_reducible apply R.par
      | with_reducible apply R.par2
      | with_reducible apply R.ifs
      | with_reducible apply R.tif
      | with_reducible apply R.test
      | with_reducible apply R.tb'
      | with_reducible apply R.isbl
      | with_reducible apply R.cmp
      | with_reducible apply R.t2i
      | with_reducible apply R.intp
      | with_reducible apply R.and
      | with_reducible apply R.or
      | with_reducible apply R.not
      | with_reducible apply R.andV
      | with_reducible apply R.orV
      | with_reducible apply R.notV
      | with_reducible apply R.chain
      | with_reducible apply R.tupL
      | with_reducible apply R.lstL
      | with_reducible apply R.cat
      | with_reducible apply R.absI
      | with_reducible apply R.intI
      | with_reducible apply R.intB
      | with_reducible apply R.eqS
      | with_reducible apply R.eqBl
      | with_reducible apply R.neBl
      | with_reducible apply R.sl
      | with_reducible apply R.noPart
      | with_reducible apply R.part
      | with_reducible apply R.isInt
      | with_reducible apply R.slL
      | with_reducible apply R.isiT
      | with_reducible apply R.isiLst
      | with_reducible apply R.nwT
      | with_reducible apply R.nwL
      | ((with_reducible apply R.mt); intro HN tn sn nn ht)
      | ((with_reducible apply R.ml); intro HN tn sn nn ht)
      | ((with_reducible apply R.isiTupS); focus ((repeat' (first | with_reducible assumption | with_reducible apply hU | ((with_reducible apply SqT.of); with_reducible assumption) | ((with_reducible apply same_seqT); with_reducible assumption) | ((with_reducible apply kp_seqT); with_reducible assumption) | ((with_reducible apply Dw.same); with_reducible assumption))); done))
      | ((with_reducible apply R.ne4); focus ((repeat' (first | with_reducible assumption | with_reducible apply hU | ((with_reducible apply SqT.of); with_reducible assumption) | ((with_reducible apply same_seqT); with_reducible assumption) | ((with_reducible apply kp_seqT); with_reducible assumption) | ((with_reducible apply Dw.same); with_reducible assumption))); done))
      | ((with_reducible apply R.ne3); focus ((repeat' (first | with_reducible assumption | with_reducible apply hU | ((with_reducible apply SqT.of); with_reducible assumption) | ((with_reducible apply same_seqT); with_reducible assumption) | ((with_reducible apply kp_seqT); with_reducible assumption) | ((with_reducible apply Dw.same); with_reducible assumption))); done))
      | ((with_reducible apply R.ne2); focus ((repeat' (first | with_reducible assumption | with_reducible apply hU | ((with_reducible apply SqT.of); with_reducible assumption) | ((with_reducible apply same_seqT); with_reducible assumption) | ((with_reducible apply kp_seqT); with_reducible assumption) | ((with_reducible apply Dw.same); with_reducible assumption))); done))
      | ((with_reducible apply R.eq4); focus ((repeat' (first | with_reducible assumption | with_reducible apply hU | ((with_reducible apply SqT.of); with_reducible assumption) | ((with_reducible apply same_seqT); with_reducible assumption) | ((with_reducible apply kp_seqT); with_reducible assumption) | ((with_reducible apply Dw.same); with_reducible assumption))); done))
      | ((with_reducible apply R.eq3); focus ((repeat' (first | with_reducible assumption | with_reducible apply hU | ((with_reducible apply SqT.of); with_reducible assumption) | ((with_reducible apply same_seqT); with_reducible assumption) | ((with_reducible apply kp_seqT); with_reducible assumption) | ((with_reducible apply Dw.same); with_reducible assumption))); done))
      | ((with_reducible apply R.eq2); focus ((repeat' (first | with_reducible assumption | with_reducible apply hU | ((with_reducible apply SqT.of); with_reducible assumption) | ((with_reducible apply same_seqT); with_reducible assumption) | ((with_reducible apply kp_seqT); with_reducible assumption) | ((with_reducible apply Dw.same); with_reducible assumption))); done))
      | with_reducible apply uLawNext
      | with_reducible apply uLawWide
      | ((with_reducible apply R.nw); intro HN tn sn ht)
      | with_reducible apply iteT
      | with_reducible apply iteF
      | with_reducible apply R.notT
      | with_reducible apply R.notF
      | ((with_reducible apply SqT.of); with_reducible assumption)
      | ((with_reducible apply SqL.of); with_reducible assumption)
      | ((with_reducible apply same_seqT); with_reducible assumption)
      | ((with_reducible apply sameB); with_reducible assumption)
      | ((with_reducible apply same_at); with_reducible assumption)
      | ((with_reducible apply kp_seqT); with_reducible assumption)
      | ((with_reducible apply Same.seq); with_reducible assumption)
      | ((with_reducible apply Kp.seqL); with_reducible assumption)
      | ((with_reducible apply fresh_ne); with_reducible assumption)
      | ((with_reducible apply Dw.same); with_reducible assumption)
      | ((with_reducible apply R.isEq); exact eq_true (by first | decide | omega))
      | ((with_reducible apply R.isLt); first | decide | omega)
      | ((with_reducible apply R.isLtI); first | decide | omega)
      | ((with_reducible apply R.isLeI); first | decide | omega)
      | ((with_reducible apply R.cdiv); exact rfl)
      | ((with_reducible apply R.cpow); exact rfl)
      | with_reducible apply R.cdivX
      | ((with_reducible apply R.isNe); omega)
      | with_reducible apply hU
      | ((with_reducible apply wayNF); first | exact rfl | exact ⟨rfl, rfl⟩ | exact ⟨rfl, rfl, rfl⟩ | exact ⟨rfl, rfl, rfl, rfl⟩)
      | with_reducible apply R.forE
      | with_reducible apply R.rng1
      | with_reducible apply R.rng2
      | with_reducible apply R.rg1
      | with_reducible apply R.rg2
      | with_reducible apply R.lcE
      | with_reducible apply R.itup
      | with_reducible apply R.ilst
      )
    have d15 := d14.same sn
    have hdp2 := sn _ _ hdp1
    have hpp2 := sn _ _ hpp0
    refine R.forN (lo := 0) (n := Int.toNat 3000) (fun i σ H' => ∃ (ta : Addr) (x12 x13 x14 : Option V), i ≤ n ∧ σ = [some (.ref l), some (.ref p), some (.int d), some (.int pv), some (.int root), some (.bl (decide (root * root = d))), x6, some (.int q), x8, some (.ref dp), some (.ref pp), some (.ref ta), x12, x13, x14, none, none, none] ∧
        H' ta = some (.tup [.int (f i).1, .int (f i).2]) ∧ H' dp = some (.dT (ckv f i)) ∧ H' pp = some (.lst (((List.range i).map (cfa d (pv, q))).map V.int)) ∧ Dw H' p a N)
      ⟨tn, _, _, _, Nat.zero_le _, rfl, by rw [hf0]; exact ht, hdp2, hpp2, d15⟩ (fun i σ H' hi hPv => ?_) (fun σ H' hPv => ?_)
    rotate_left
    · exfalso
      obtain ⟨_, _, _, _, hle, _⟩ := hPv
      have : (3000 : Nat) ≤ n := hle
      omega
    · obtain ⟨ta, x12, x13, x14, hle, rfl, hta, hdp, hpp, dw⟩ := hPv
      repeat' (first
        | with_reducible apply R.var
        | ((with_reducible apply R.isEq); exact rfl)
        | with_reducible apply R.op
        | with_reducible apply R.i2
        | with_reducible apply R.i0
        | with_reducible apply R.con
        | with_reducible apply R.cons
        | with_reducible apply R.nil
        | with_reducible apply R.gcons
        | with_reducible apply R.gname
        | ((with_reducible apply R.ixT); (focus ((repeat' (first | with_reducible assumption | with_reducible apply hU | ((with_reducible apply SqT.of); with_reducible assumption) | ((with_reducible apply same_seqT); with_reducible assumption) | ((with_reducible apply kp_seqT); with_reducible assumption) | ((with_reducible apply Dw.same); with_reducible assumption))); done)); exact rfl)
        | ((with_reducible apply R.ixL); (focus ((repeat' (first | with_reducible assumption | ((with_reducible apply SqL.of); with_reducible assumption) | ((with_reducible apply Same.seq); with_reducible assumption) | ((with_reducible apply Kp.seqL); with_reducible assumption) | ((with_reducible apply fresh_ne); with_reducible assumption) | ((with_reducible apply Dw.same); with_reducible assumption))); done)); exact rfl)
        | with_reducible assumption
        | with_reducible apply Bd.mulW
        | with_reducible apply Bd.mul
        | with_reducible apply Bd.add
        | with_reducible apply Bd.sub
        | ((with_reducible apply Bd.l8); exact eq_true (by decide))
        | ((with_reducible apply Bd.lit); exact eq_true (by decide))
        | with_reducible apply Bd.neg
        | with_reducible apply Bd.div
        | with_reducible apply Bd.abs
        | with_reducible apply Bd.mod
        | with_reducible apply Bd.fdiv
        | ((with_reducible apply Bd.om); omega)
        | ((with_reducible apply R.isLe); first | decide | omega)
        | with_reducible apply R.un
        | with_reducible apply R.u1
        | with_reducible apply R.tup
        | with_reducible apply R.lst
        | with_reducible apply R.call
        | with_reducible apply R.callB
        | with_reducible apply R.gtup
        | with_reducible apply R.gnil
        | with_reducible apply R.seq
        | with_reducible apply R.asg
        | with_reducible apply R.ret
        | with_reducible apply R.brk
        | with_reducible apply R.cont
        | with_reducible apply R.next
        | with_reducible apply R.drop
        | with_reducible apply R.par
        | with_reducible apply R.par2
        | with_reducible apply R.ifs
        | with_reducible apply R.tif
        | with_reducible apply R.test
        | with_reducible apply R.tb'
        | with_reducible apply R.isbl
        | with_reducible apply R.cmp
        | with_reducible apply R.t2i
        | with_reducible apply R.intp
        | with_reducible apply R.and
        | with_reducible apply R.or
        | with_reducible apply R.not
        | with_reducible apply R.andV
        | with_reducible apply R.orV
        | with_reducible apply R.notV
        | with_reducible apply R.chain
        | with_reducible apply R.tupL
        | with_reducible apply R.lstL
        | with_reducible apply R.cat
        | with_reducible apply R.absI
        | with_reducible apply R.intI
        | with_reducible apply R.intB
        | with_reducible apply R.eqS
        | with_reducible apply R.eqBl
        | with_reducible apply R.neBl
        | with_reducible apply R.sl
        | with_reducible apply R.noPart
        | with_reducible apply R.part
        | with_reducible apply R.isInt
        | with_reducible apply R.slL
        | with_reducible apply R.isiT
        | with_reducible apply R.isiLst
        | with_reducible apply R.nwT
        | with_reducible apply R.nwL
        | ((with_reducible apply R.mt); intro HN tn sn nn ht)
        | ((with_reducible apply R.ml); intro HN tn sn nn ht)
        | ((with_reducible apply R.isiTupS); focus ((repeat' (first | with_reducible assumption | with_reducible apply hU | ((with_reducible apply SqT.of); with_reducible assumption) | ((with_reducible apply same_seqT); with_reducible assumption) | ((with_reducible apply kp_seqT); with_reducible assumption) | ((with_reducible apply Dw.same); with_reducible assumption))); done))
        | ((with_reducible apply R.ne4); focus ((repeat' (first | with_reducible assumption | with_reducible apply hU | ((with_reducible apply SqT.of); with_reducible assumption) | ((with_reducible apply same_seqT); with_reducible assumption) | ((with_reducible apply kp_seqT); with_reducible assumption) | ((with_reducible apply Dw.same); with_reducible assumption))); done))
        | ((with_reducible apply R.ne3); focus ((repeat' (first | with_reducible assumption | with_reducible apply hU | ((with_reducible apply SqT.of); with_reducible assumption) | ((with_reducible apply same_seqT); with_reducible assumption) | ((with_reducible apply kp_seqT); with_reducible assumption) | ((with_reducible apply Dw.same); with_reducible assumption))); done))
        | ((with_reducible apply R.ne2); focus ((repeat' (first | with_reducible assumption | with_reducible apply hU | ((with_reducible apply SqT.of); with_reducible assumption) | ((with_reducible apply same_seqT); with_reducible assumption) | ((with_reducible apply kp_seqT); with_reducible assumption) | ((with_reducible apply Dw.same); with_reducible assumption))); done))
        | ((with_reducible apply R.eq4); focus ((repeat' (first | with_reducible assumption | with_reducible apply hU | ((with_reducible apply SqT.of); with_reducible assumption) | ((with_reducible apply same_seqT); with_reducible assumption) | ((with_reducible apply kp_seqT); with_reducible assumption) | ((with_reducible apply Dw.same); with_reducible assumption))); done))
        | ((with_reducible apply R.eq3); focus ((repeat' (first | with_reducible assumption | with_reducible apply hU | ((with_reducible apply SqT.of); with_reducible assumption) | ((with_reducible apply same_seqT); with_reducible assumption) | ((with_reducible apply kp_seqT); with_reducible assumption) | ((with_reducible apply Dw.same); with_reducible assumption))); done))
        | ((with_reducible apply R.eq2); focus ((repeat' (first | with_reducible assumption | with_reducible apply hU | ((with_reducible apply SqT.of); with_reducible assumption) | ((with_reducible apply same_seqT); with_reducible assumption) | ((with_reducible apply kp_seqT); with_reducible assumption) | ((with_reducible apply Dw.same); with_reducible assumption))); done))
        | with_reducible apply uLawNext
        | with_reducible apply uLawWide
        | ((with_reducible apply R.nw); intro HN tn sn ht)
        | with_reducible apply iteT
        | with_reducible apply iteF
        | with_reducible apply R.notT
        | with_reducible apply R.notF
        | ((with_reducible apply SqT.of); with_reducible assumption)
        | ((with_reducible apply SqL.of); with_reducible assumption)
        | ((with_reducible apply same_seqT); with_reducible assumption)
        | ((with_reducible apply sameB); with_reducible assumption)
        | ((with_reducible apply same_at); with_reducible assumption)
        | ((with_reducible apply kp_seqT); with_reducible assumption)
        | ((with_reducible apply Same.seq); with_reducible assumption)
        | ((with_reducible apply Kp.seqL); with_reducible assumption)
        | ((with_reducible apply fresh_ne); with_reducible assumption)
        | ((with_reducible apply Dw.same); with_reducible assumption)
        | ((with_reducible apply R.isEq); exact eq_true (by first | decide | omega))
        | ((with_reducible apply R.isLt); first | decide | omega)
        | ((with_reducible apply R.isLtI); first | decide | omega)
        | ((with_reducible apply R.isLeI); first | decide | omega)
        | ((with_reducible apply R.cdiv); exact rfl)
        | ((with_reducible apply R.cpow); exact rfl)
        | with_reducible apply R.cdivX
        | ((with_reducible apply R.isNe); omega)
        | with_reducible apply hU
        | ((with_reducible apply wayNF); first | exact rfl | exact ⟨rfl, rfl⟩ | exact ⟨rfl, rfl, rfl⟩ | exact ⟨rfl, rfl, rfl, rfl⟩)
        | with_reducible apply R.forE
        | with_reducible apply R.rng1
        | with_reducible apply R.rng2
        | with_reducible apply R.rg1
        | with_reducible apply R.rg2
        | with_reducible apply R.lcE
        | with_reducible apply R.itup
        | with_reducible apply R.ilst
        )
      refine ⟨_, rfl, _, rfl, dp, _, rfl, DGet.t (k := ckey (f i)) hdp hta, ?_⟩
      by_cases hin : i < n
      · have hno : ∀ a, a < i → f a ≠ f i := fun a ha => hun a i ha hin
        obtain ⟨sz1, sz2⟩ := hsz i
        have q1 := hq1 i hle
        have fs := hfs i
        have e1 : (f (i + 1)).1 = partI (f i).1 (f i).2 root * (f i).2 - (f i).1 := by rw [fs]; rfl
        have e2 : (f (i + 1)).2 = (d - (f (i + 1)).1 * (f (i + 1)).1).fdiv (f i).2 := by rw [fs]; rfl
        obtain ⟨ps1, ps2⟩ := part_size (p := (f i).1) hd0 q1
        rw [hroot] at ps1 ps2
        have hpart := hcfa i
        rw [ckv_none hno]
        repeat' (first
          | with_reducible apply R.var
          | ((with_reducible apply R.isEq); exact rfl)
          | with_reducible apply R.op
          | with_reducible apply R.i2
          | with_reducible apply R.i0
          | with_reducible apply R.con
          | with_reducible apply R.cons
          | with_reducible apply R.nil
          | with_reducible apply R.gcons
          | with_reducible apply R.gname
          | ((with_reducible apply R.ixT); (focus ((repeat' (first | with_reducible assumption | with_reducible apply hU | ((with_reducible apply SqT.of); with_reducible assumption) | ((with_reducible apply same_seqT); with_reducible assumption) | ((with_reducible apply kp_seqT); with_reducible assumption) | ((with_reducible apply Dw.same); with_reducible assumption))); done)); exact rfl)
          | ((with_reducible apply R.ixL); (focus ((repeat' (first | with_reducible assumption | ((with_reducible apply SqL.of); with_reducible assumption) | ((with_reducible apply Same.seq); with_reducible assumption) | ((with_reducible apply Kp.seqL); with_reducible assumption) | ((with_reducible apply fresh_ne); with_reducible assumption) | ((with_reducible apply Dw.same); with_reducible assumption))); done)); exact rfl)
          | with_reducible assumption
          | with_reducible apply Bd.mulW
          | with_reducible apply Bd.mul
          | with_reducible apply Bd.add
          | with_reducible apply Bd.sub
          | ((with_reducible apply Bd.l8); exact eq_true (by decide))
          | ((with_reducible apply Bd.lit); exact eq_true (by decide))
          | with_reducible apply Bd.neg
          | with_reducible apply Bd.div
          | with_reducible apply Bd.abs
          | with_reducible apply Bd.mod
          | with_reducible apply Bd.fdiv
          | ((with_reducible apply Bd.om); omega)
          | ((with_reducible apply R.isLe); first | decide | omega)
          | with_reducible apply R.un
          | with_reducible apply R.u1
          | with_reducible apply R.tup
          | with_reducible apply R.lst
          | with_reducible apply R.call
          | with_reducible apply R.callB
          | with_reducible apply R.gtup
          | with_reducible apply R.gnil
          | with_reducible apply R.seq
          | with_reducible apply R.asg
          | with_reducible apply R.ret
          | with_reducible apply R.brk
          | with_reducible apply R.cont
          | with_reducible apply R.next
          | with_reducible apply R.drop
          | with_reducible apply R.par
          | with_reducible apply R.par2
          | with_reducible apply R.ifs
          | with_reducible apply R.tif
          | with_reducible apply R.test
          | with_reducible apply R.tb'
          | with_reducible apply R.isbl
          | with_reducible apply R.cmp
          | with_reducible apply R.t2i
          | with_reducible apply R.intp
          | with_reducible apply R.and
          | with_reducible apply R.or
          | with_reducible apply R.not
          | with_reducible apply R.andV
          | with_reducible apply R.orV
          | with_reducible apply R.notV
          | with_reducible apply R.chain
          | with_reducible apply R.tupL
          | with_reducible apply R.lstL
          | with_reducible apply R.cat
          | with_reducible apply R.absI
          | with_reducible apply R.intI
          | with_reducible apply R.intB
          | with_reducible apply R.eqS
          | with_reducible apply R.eqBl
          | with_reducible apply R.neBl
          | with_reducible apply R.sl
          | with_reducible apply R.noPart
          | with_reducible apply R.part
          | with_reducible apply R.isInt
          | with_reducible apply R.slL
          | with_reducible apply R.isiT
          | with_reducible apply R.isiLst
          | with_reducible apply R.nwT
          | with_reducible apply R.nwL
          | ((with_reducible apply R.mt); intro HN tn sn nn ht)
          | ((with_reducible apply R.ml); intro HN tn sn nn ht)
          | ((with_reducible apply R.isiTupS); focus ((repeat' (first | with_reducible assumption | with_reducible apply hU | ((with_reducible apply SqT.of); with_reducible assumption) | ((with_reducible apply same_seqT); with_reducible assumption) | ((with_reducible apply kp_seqT); with_reducible assumption) | ((with_reducible apply Dw.same); with_reducible assumption))); done))
          | ((with_reducible apply R.ne4); focus ((repeat' (first | with_reducible assumption | with_reducible apply hU | ((with_reducible apply SqT.of); with_reducible assumption) | ((with_reducible apply same_seqT); with_reducible assumption) | ((with_reducible apply kp_seqT); with_reducible assumption) | ((with_reducible apply Dw.same); with_reducible assumption))); done))
          | ((with_reducible apply R.ne3); focus ((repeat' (first | with_reducible assumption | with_reducible apply hU | ((with_reducible apply SqT.of); with_reducible assumption) | ((with_reducible apply same_seqT); with_reducible assumption) | ((with_reducible apply kp_seqT); with_reducible assumption) | ((with_reducible apply Dw.same); with_reducible assumption))); done))
          | ((with_reducible apply R.ne2); focus ((repeat' (first | with_reducible assumption | with_reducible apply hU | ((with_reducible apply SqT.of); with_reducible assumption) | ((with_reducible apply same_seqT); with_reducible assumption) | ((with_reducible apply kp_seqT); with_reducible assumption) | ((with_reducible apply Dw.same); with_reducible assumption))); done))
          | ((with_reducible apply R.eq4); focus ((repeat' (first | with_reducible assumption | with_reducible apply hU | ((with_reducible apply SqT.of); with_reducible assumption) | ((with_reducible apply same_seqT); with_reducible assumption) | ((with_reducible apply kp_seqT); with_reducible assumption) | ((with_reducible apply Dw.same); with_reducible assumption))); done))
          | ((with_reducible apply R.eq3); focus ((repeat' (first | with_reducible assumption | with_reducible apply hU | ((with_reducible apply SqT.of); with_reducible assumption) | ((with_reducible apply same_seqT); with_reducible assumption) | ((with_reducible apply kp_seqT); with_reducible assumption) | ((with_reducible apply Dw.same); with_reducible assumption))); done))
          | ((with_reducible apply R.eq2); focus ((repeat' (first | with_reducible assumption | with_reducible apply hU | ((with_reducible apply SqT.of); with_reducible assumption) | ((with_reducible apply same_seqT); with_reducible assumption) | ((with_reducible apply kp_seqT); with_reducible assumption) | ((with_reducible apply Dw.same); with_reducible assumption))); done))
          | with_reducible apply uLawNext
          | with_reducible apply uLawWide
          | ((with_reducible apply R.nw); intro HN tn sn ht)
          | with_reducible apply iteT
          | with_reducible apply iteF
          | with_reducible apply R.notT
          | with_reducible apply R.notF
          | ((with_reducible apply SqT.of); with_reducible assumption)
          | ((with_reducible apply SqL.of); with_reducible assumption)
          | ((with_reducible apply same_seqT); with_reducible assumption)
          | ((with_reducible apply sameB); with_reducible assumption)
          | ((with_reducible apply same_at); with_reducible assumption)
          | ((with_reducible apply kp_seqT); with_reducible assumption)
          | ((with_reducible apply Same.seq); with_reducible assumption)
          | ((with_reducible apply Kp.seqL); with_reducible assumption)
          | ((with_reducible apply fresh_ne); with_reducible assumption)
          | ((with_reducible apply Dw.same); with_reducible assumption)
          | ((with_reducible apply R.isEq); exact eq_true (by first | decide | omega))
          | ((with_reducible apply R.isLt); first | decide | omega)
          | ((with_reducible apply R.isLtI); first | decide | omega)
          | ((with_reducible apply R.isLeI); first | decide | omega)
          | ((with_reducible apply R.cdiv); exact rfl)
          | ((with_reducible apply R.cpow); exact rfl)
          | with_reducible apply R.cdivX
          | ((with_reducible apply R.isNe); omega)
          | with_reducible apply hU
          | ((with_reducible apply wayNF); first | exact rfl | exact ⟨rfl, rfl⟩ | exact ⟨rfl, rfl, rfl⟩ | exact ⟨rfl, rfl, rfl, rfl⟩)
          | with_reducible apply R.forE
          | with_reducible apply R.rng1
          | with_reducible apply R.rng2
          | with_reducible apply R.rg1
          | with_reducible apply R.rg2
          | with_reducible apply R.lcE
          | with_reducible apply R.itup
          | with_reducible apply R.ilst
          )
        refine ⟨_, rfl, pp, _, rfl, .inl (SqL.of hpp), ?_⟩
        rw [show ((((List.range i).map (cfa d (pv, q))).map V.int).length : Int) = (i : Int) by simp]
        refine ⟨_, rfl, _, rfl, dp, _, rfl, DPut.t (k := ckey (f i)) hdp hta ?_, ?_⟩
        · rw [ckv_len]
          exact small1000' (by omega)
        rw [ckv_put hno]
        have hta2 : (upd H' dp (.dT (ckv f (i + 1)))) ta = some (.tup [.int (f i).1, .int (f i).2]) := by
          rw [upd_ne (ne_of hta hdp (by intro z; cases z))]
          exact hta
        have hdp2 : (upd H' dp (.dT (ckv f (i + 1)))) dp = some (.dT (ckv f (i + 1))) := upd_same
        have hpp2 : (upd H' dp (.dT (ckv f (i + 1)))) pp = some (.lst (((List.range i).map (cfa d (pv, q))).map V.int)) := by
          rw [upd_ne dnp.symm]
          exact hpp
        have dw2 := dw.mut (o := .dT (ckv f (i + 1))) dpp dpa
        generalize upd H' dp (.dT (ckv f (i + 1))) = H6 at hta2 hdp2 hpp2 dw2 ⊢
        have bf1 : Bd 60 (f i).1 := Bd.om (by omega)
        have bf2 : Bd 60 (f i).2 := Bd.om (by omega)
        repeat' (first
          | with_reducible apply R.var
          | ((with_reducible apply R.isEq); exact rfl)
          | with_reducible apply R.op
          | with_reducible apply R.i2
          | with_reducible apply R.i0
          | with_reducible apply R.con
          | with_reducible apply R.cons
          | with_reducible apply R.nil
          | with_reducible apply R.gcons
          | with_reducible apply R.gname
          | ((with_reducible apply R.ixT); (focus ((repeat' (first | with_reducible assumption | with_reducible apply hU | ((with_reducible apply SqT.of); with_reducible assumption) | ((with_reducible apply same_seqT); with_reducible assumption) | ((with_reducible apply kp_seqT); with_reducible assumption) | ((with_reducible apply Dw.same); with_reducible assumption))); done)); exact rfl)
          | ((with_reducible apply R.ixL); (focus ((repeat' (first | with_reducible assumption | ((with_reducible apply SqL.of); with_reducible assumption) | ((with_reducible apply Same.seq); with_reducible assumption) | ((with_reducible apply Kp.seqL); with_reducible assumption) | ((with_reducible apply fresh_ne); with_reducible assumption) | ((with_reducible apply Dw.same); with_reducible assumption))); done)); exact rfl)
          | with_reducible assumption
          | with_reducible apply Bd.mulW
          | with_reducible apply Bd.mul
          | with_reducible apply Bd.add
          | with_reducible apply Bd.sub
          | ((with_reducible apply Bd.l8); exact eq_true (by decide))
          | ((with_reducible apply Bd.lit); exact eq_true (by decide))
          | with_reducible apply Bd.neg
          | with_reducible apply Bd.div
          | with_reducible apply Bd.abs
          | with_reducible apply Bd.mod
          | with_reducible apply Bd.fdiv
          | ((with_reducible apply Bd.om); omega)
          | ((with_reducible apply R.isLe); first | decide | omega)
          | with_reducible apply R.un
          | with_reducible apply R.u1
          | with_reducible apply R.tup
          | with_reducible apply R.lst
          | with_reducible apply R.call
          | with_reducible apply R.callB
          | with_reducible apply R.gtup
          | with_reducible apply R.gnil
          | with_reducible apply R.seq
          | with_reducible apply R.asg
          | with_reducible apply R.ret
          | with_reducible apply R.brk
          | with_reducible apply R.cont
          | with_reducible apply R.next
          | with_reducible apply R.drop
          | with_reducible apply R.par
          | with_reducible apply R.par2
          | with_reducible apply R.ifs
          | with_reducible apply R.tif
          | with_reducible apply R.test
          | with_reducible apply R.tb'
          | with_reducible apply R.isbl
          | with_reducible apply R.cmp
          | with_reducible apply R.t2i
          | with_reducible apply R.intp
          | with_reducible apply R.and
          | with_reducible apply R.or
          | with_reducible apply R.not
          | with_reducible apply R.andV
          | with_reducible apply R.orV
          | with_reducible apply R.notV
          | with_reducible apply R.chain
          | with_reducible apply R.tupL
          | with_reducible apply R.lstL
          | with_reducible apply R.cat
          | with_reducible apply R.absI
          | with_reducible apply R.intI
          | with_reducible apply R.intB
          | with_reducible apply R.eqS
          | with_reducible apply R.eqBl
          | with_reducible apply R.neBl
          | with_reducible apply R.sl
          | with_reducible apply R.noPart
          | with_reducible apply R.part
          | with_reducible apply R.isInt
          | with_reducible apply R.slL
          | with_reducible apply R.isiT
          | with_reducible apply R.isiLst
          | with_reducible apply R.nwT
          | with_reducible apply R.nwL
          | ((with_reducible apply R.mt); intro HN tn sn nn ht)
          | ((with_reducible apply R.ml); intro HN tn sn nn ht)
          | ((with_reducible apply R.isiTupS); focus ((repeat' (first | with_reducible assumption | with_reducible apply hU | ((with_reducible apply SqT.of); with_reducible assumption) | ((with_reducible apply same_seqT); with_reducible assumption) | ((with_reducible apply kp_seqT); with_reducible assumption) | ((with_reducible apply Dw.same); with_reducible assumption))); done))
          | ((with_reducible apply R.ne4); focus ((repeat' (first | with_reducible assumption | with_reducible apply hU | ((with_reducible apply SqT.of); with_reducible assumption) | ((with_reducible apply same_seqT); with_reducible assumption) | ((with_reducible apply kp_seqT); with_reducible assumption) | ((with_reducible apply Dw.same); with_reducible assumption))); done))
          | ((with_reducible apply R.ne3); focus ((repeat' (first | with_reducible assumption | with_reducible apply hU | ((with_reducible apply SqT.of); with_reducible assumption) | ((with_reducible apply same_seqT); with_reducible assumption) | ((with_reducible apply kp_seqT); with_reducible assumption) | ((with_reducible apply Dw.same); with_reducible assumption))); done))
          | ((with_reducible apply R.ne2); focus ((repeat' (first | with_reducible assumption | with_reducible apply hU | ((with_reducible apply SqT.of); with_reducible assumption) | ((with_reducible apply same_seqT); with_reducible assumption) | ((with_reducible apply kp_seqT); with_reducible assumption) | ((with_reducible apply Dw.same); with_reducible assumption))); done))
          | ((with_reducible apply R.eq4); focus ((repeat' (first | with_reducible assumption | with_reducible apply hU | ((with_reducible apply SqT.of); with_reducible assumption) | ((with_reducible apply same_seqT); with_reducible assumption) | ((with_reducible apply kp_seqT); with_reducible assumption) | ((with_reducible apply Dw.same); with_reducible assumption))); done))
          | ((with_reducible apply R.eq3); focus ((repeat' (first | with_reducible assumption | with_reducible apply hU | ((with_reducible apply SqT.of); with_reducible assumption) | ((with_reducible apply same_seqT); with_reducible assumption) | ((with_reducible apply kp_seqT); with_reducible assumption) | ((with_reducible apply Dw.same); with_reducible assumption))); done))
          | ((with_reducible apply R.eq2); focus ((repeat' (first | with_reducible assumption | with_reducible apply hU | ((with_reducible apply SqT.of); with_reducible assumption) | ((with_reducible apply same_seqT); with_reducible assumption) | ((with_reducible apply kp_seqT); with_reducible assumption) | ((with_reducible apply Dw.same); with_reducible assumption))); done))
          | with_reducible apply uLawNext
          | with_reducible apply uLawWide
          | ((with_reducible apply R.nw); intro HN tn sn ht)
          | with_reducible apply iteT
          | with_reducible apply iteF
          | with_reducible apply R.notT
          | with_reducible apply R.notF
          | ((with_reducible apply SqT.of); with_reducible assumption)
          | ((with_reducible apply SqL.of); with_reducible assumption)
          | ((with_reducible apply same_seqT); with_reducible assumption)
          | ((with_reducible apply sameB); with_reducible assumption)
          | ((with_reducible apply same_at); with_reducible assumption)
          | ((with_reducible apply kp_seqT); with_reducible assumption)
          | ((with_reducible apply Same.seq); with_reducible assumption)
          | ((with_reducible apply Kp.seqL); with_reducible assumption)
          | ((with_reducible apply fresh_ne); with_reducible assumption)
          | ((with_reducible apply Dw.same); with_reducible assumption)
          | ((with_reducible apply R.isEq); exact eq_true (by first | decide | omega))
          | ((with_reducible apply R.isLt); first | decide | omega)
          | ((with_reducible apply R.isLtI); first | decide | omega)
          | ((with_reducible apply R.isLeI); first | decide | omega)
          | ((with_reducible apply R.cdiv); exact rfl)
          | ((with_reducible apply R.cpow); exact rfl)
          | with_reducible apply R.cdivX
          | ((with_reducible apply R.isNe); omega)
          | with_reducible apply hU
          | ((with_reducible apply wayNF); first | exact rfl | exact ⟨rfl, rfl⟩ | exact ⟨rfl, rfl, rfl⟩ | exact ⟨rfl, rfl, rfl, rfl⟩)
          | with_reducible apply R.forE
          | with_reducible apply R.rng1
          | with_reducible apply R.rng2
          | with_reducible apply R.rg1
          | with_reducible apply R.rg2
          | with_reducible apply R.lcE
          | with_reducible apply R.itup
          | with_reducible apply R.ilst
          )
        refine ⟨(f i).1, (f i).2, d, rfl, by omega, by omega, by omega, by omega, hd0, hd1, by rw [hroot]; exact hns', q1, ?_⟩
        rw [hroot]
        have bfp : Bd 60 (partI (f i).1 (f i).2 root) := Bd.om (by omega)
        repeat' (first
          | with_reducible apply R.var
          | ((with_reducible apply R.isEq); exact rfl)
          | with_reducible apply R.op
          | with_reducible apply R.i2
          | with_reducible apply R.i0
          | with_reducible apply R.con
          | with_reducible apply R.cons
          | with_reducible apply R.nil
          | with_reducible apply R.gcons
          | with_reducible apply R.gname
          | ((with_reducible apply R.ixT); (focus ((repeat' (first | with_reducible assumption | with_reducible apply hU | ((with_reducible apply SqT.of); with_reducible assumption) | ((with_reducible apply same_seqT); with_reducible assumption) | ((with_reducible apply kp_seqT); with_reducible assumption) | ((with_reducible apply Dw.same); with_reducible assumption))); done)); exact rfl)
          | ((with_reducible apply R.ixL); (focus ((repeat' (first | with_reducible assumption | ((with_reducible apply SqL.of); with_reducible assumption) | ((with_reducible apply Same.seq); with_reducible assumption) | ((with_reducible apply Kp.seqL); with_reducible assumption) | ((with_reducible apply fresh_ne); with_reducible assumption) | ((with_reducible apply Dw.same); with_reducible assumption))); done)); exact rfl)
          | with_reducible assumption
          | with_reducible apply Bd.mulW
          | with_reducible apply Bd.mul
          | with_reducible apply Bd.add
          | with_reducible apply Bd.sub
          | ((with_reducible apply Bd.l8); exact eq_true (by decide))
          | ((with_reducible apply Bd.lit); exact eq_true (by decide))
          | with_reducible apply Bd.neg
          | with_reducible apply Bd.div
          | with_reducible apply Bd.abs
          | with_reducible apply Bd.mod
          | with_reducible apply Bd.fdiv
          | ((with_reducible apply Bd.om); omega)
          | ((with_reducible apply R.isLe); first | decide | omega)
          | with_reducible apply R.un
          | with_reducible apply R.u1
          | with_reducible apply R.tup
          | with_reducible apply R.lst
          | with_reducible apply R.call
          | with_reducible apply R.callB
          | with_reducible apply R.gtup
          | with_reducible apply R.gnil
          | with_reducible apply R.seq
          | with_reducible apply R.asg
          | with_reducible apply R.ret
          | with_reducible apply R.brk
          | with_reducible apply R.cont
          | with_reducible apply R.next
          | with_reducible apply R.drop
          | with_reducible apply R.par
          | with_reducible apply R.par2
          | with_reducible apply R.ifs
          | with_reducible apply R.tif
          | with_reducible apply R.test
          | with_reducible apply R.tb'
          | with_reducible apply R.isbl
          | with_reducible apply R.cmp
          | with_reducible apply R.t2i
          | with_reducible apply R.intp
          | with_reducible apply R.and
          | with_reducible apply R.or
          | with_reducible apply R.not
          | with_reducible apply R.andV
          | with_reducible apply R.orV
          | with_reducible apply R.notV
          | with_reducible apply R.chain
          | with_reducible apply R.tupL
          | with_reducible apply R.lstL
          | with_reducible apply R.cat
          | with_reducible apply R.absI
          | with_reducible apply R.intI
          | with_reducible apply R.intB
          | with_reducible apply R.eqS
          | with_reducible apply R.eqBl
          | with_reducible apply R.neBl
          | with_reducible apply R.sl
          | with_reducible apply R.noPart
          | with_reducible apply R.part
          | with_reducible apply R.isInt
          | with_reducible apply R.slL
          | with_reducible apply R.isiT
          | with_reducible apply R.isiLst
          | with_reducible apply R.nwT
          | with_reducible apply R.nwL
          | ((with_reducible apply R.mt); intro HN tn sn nn ht)
          | ((with_reducible apply R.ml); intro HN tn sn nn ht)
          | ((with_reducible apply R.isiTupS); focus ((repeat' (first | with_reducible assumption | with_reducible apply hU | ((with_reducible apply SqT.of); with_reducible assumption) | ((with_reducible apply same_seqT); with_reducible assumption) | ((with_reducible apply kp_seqT); with_reducible assumption) | ((with_reducible apply Dw.same); with_reducible assumption))); done))
          | ((with_reducible apply R.ne4); focus ((repeat' (first | with_reducible assumption | with_reducible apply hU | ((with_reducible apply SqT.of); with_reducible assumption) | ((with_reducible apply same_seqT); with_reducible assumption) | ((with_reducible apply kp_seqT); with_reducible assumption) | ((with_reducible apply Dw.same); with_reducible assumption))); done))
          | ((with_reducible apply R.ne3); focus ((repeat' (first | with_reducible assumption | with_reducible apply hU | ((with_reducible apply SqT.of); with_reducible assumption) | ((with_reducible apply same_seqT); with_reducible assumption) | ((with_reducible apply kp_seqT); with_reducible assumption) | ((with_reducible apply Dw.same); with_reducible assumption))); done))
          | ((with_reducible apply R.ne2); focus ((repeat' (first | with_reducible assumption | with_reducible apply hU | ((with_reducible apply SqT.of); with_reducible assumption) | ((with_reducible apply same_seqT); with_reducible assumption) | ((with_reducible apply kp_seqT); with_reducible assumption) | ((with_reducible apply Dw.same); with_reducible assumption))); done))
          | ((with_reducible apply R.eq4); focus ((repeat' (first | with_reducible assumption | with_reducible apply hU | ((with_reducible apply SqT.of); with_reducible assumption) | ((with_reducible apply same_seqT); with_reducible assumption) | ((with_reducible apply kp_seqT); with_reducible assumption) | ((with_reducible apply Dw.same); with_reducible assumption))); done))
          | ((with_reducible apply R.eq3); focus ((repeat' (first | with_reducible assumption | with_reducible apply hU | ((with_reducible apply SqT.of); with_reducible assumption) | ((with_reducible apply same_seqT); with_reducible assumption) | ((with_reducible apply kp_seqT); with_reducible assumption) | ((with_reducible apply Dw.same); with_reducible assumption))); done))
          | ((with_reducible apply R.eq2); focus ((repeat' (first | with_reducible assumption | with_reducible apply hU | ((with_reducible apply SqT.of); with_reducible assumption) | ((with_reducible apply same_seqT); with_reducible assumption) | ((with_reducible apply kp_seqT); with_reducible assumption) | ((with_reducible apply Dw.same); with_reducible assumption))); done))
          | with_reducible apply uLawNext
          | with_reducible apply uLawWide
          | ((with_reducible apply R.nw); intro HN tn sn ht)
          | with_reducible apply iteT
          | with_reducible apply iteF
          | with_reducible apply R.notT
          | with_reducible apply R.notF
          | ((with_reducible apply SqT.of); with_reducible assumption)
          | ((with_reducible apply SqL.of); with_reducible assumption)
          | ((with_reducible apply same_seqT); with_reducible assumption)
          | ((with_reducible apply sameB); with_reducible assumption)
          | ((with_reducible apply same_at); with_reducible assumption)
          | ((with_reducible apply kp_seqT); with_reducible assumption)
          | ((with_reducible apply Same.seq); with_reducible assumption)
          | ((with_reducible apply Kp.seqL); with_reducible assumption)
          | ((with_reducible apply fresh_ne); with_reducible assumption)
          | ((with_reducible apply Dw.same); with_reducible assumption)
          | ((with_reducible apply R.isEq); exact eq_true (by first | decide | omega))
          | ((with_reducible apply R.isLt); first | decide | omega)
          | ((with_reducible apply R.isLtI); first | decide | omega)
          | ((with_reducible apply R.isLeI); first | decide | omega)
          | ((with_reducible apply R.cdiv); exact rfl)
          | ((with_reducible apply R.cpow); exact rfl)
          | with_reducible apply R.cdivX
          | ((with_reducible apply R.isNe); omega)
          | with_reducible apply hU
          | ((with_reducible apply wayNF); first | exact rfl | exact ⟨rfl, rfl⟩ | exact ⟨rfl, rfl, rfl⟩ | exact ⟨rfl, rfl, rfl, rfl⟩)
          | with_reducible apply R.forE
          | with_reducible apply R.rng1
          | with_reducible apply R.rng2
          | with_reducible apply R.rg1
          | with_reducible apply R.rg2
          | with_reducible apply R.lcE
          | with_reducible apply R.itup
          | with_reducible apply R.ilst
          )
        refine ⟨_, rfl, .inl ⟨rfl, _, SqL.of hpp2⟩, _, rfl, _, _, _, rfl, rfl, hpp2, ?_, ?_⟩
        · rw [List.length_map, List.length_map, List.length_range]
          exact small1000' (by omega)
        have hpp3 : (upd H6 pp (.lst ((((List.range i).map (cfa d (pv, q))).map V.int) ++ [V.int (partI (f i).1 (f i).2 root)]))) pp = some (.lst (((List.range (i + 1)).map (cfa d (pv, q))).map V.int)) := by
          rw [upd_same, List.range_succ, List.map_append, List.map_append, ← hpart]
          rfl
        have hta3 : (upd H6 pp (.lst ((((List.range i).map (cfa d (pv, q))).map V.int) ++ [V.int (partI (f i).1 (f i).2 root)]))) ta = some (.tup [.int (f i).1, .int (f i).2]) := by
          rw [upd_ne (ne_of hta2 hpp2 (by intro z; cases z))]
          exact hta2
        have hdp3 : (upd H6 pp (.lst ((((List.range i).map (cfa d (pv, q))).map V.int) ++ [V.int (partI (f i).1 (f i).2 root)]))) dp = some (.dT (ckv f (i + 1))) := by
          rw [upd_ne dnp]
          exact hdp2
        have dw3 := dw2.mut (o := .lst ((((List.range i).map (cfa d (pv, q))).map V.int) ++ [V.int (partI (f i).1 (f i).2 root)])) ppp ppa
        generalize upd H6 pp (.lst ((((List.range i).map (cfa d (pv, q))).map V.int) ++ [V.int (partI (f i).1 (f i).2 root)])) = H7 at hpp3 hta3 hdp3 dw3 ⊢
        have hcd : CDivX (d - (partI (f i).1 (f i).2 root * (f i).2 - (f i).1) * (partI (f i).1 (f i).2 root * (f i).2 - (f i).1)) (f i).2 := ⟨q1, Nat.lt_of_le_of_lt sz2 (Nat.lt_of_lt_of_le (show 400 < 2 ^ 9 by decide) (Nat.pow_le_pow_right (by decide) (by decide)))⟩
        repeat' (first
          | with_reducible apply R.var
          | ((with_reducible apply R.isEq); exact rfl)
          | with_reducible apply R.op
          | with_reducible apply R.i2
          | with_reducible apply R.i0
          | with_reducible apply R.con
          | with_reducible apply R.cons
          | with_reducible apply R.nil
          | with_reducible apply R.gcons
          | with_reducible apply R.gname
          | ((with_reducible apply R.ixT); (focus ((repeat' (first | with_reducible assumption | with_reducible apply hU | ((with_reducible apply SqT.of); with_reducible assumption) | ((with_reducible apply same_seqT); with_reducible assumption) | ((with_reducible apply kp_seqT); with_reducible assumption) | ((with_reducible apply Dw.same); with_reducible assumption))); done)); exact rfl)
          | ((with_reducible apply R.ixL); (focus ((repeat' (first | with_reducible assumption | ((with_reducible apply SqL.of); with_reducible assumption) | ((with_reducible apply Same.seq); with_reducible assumption) | ((with_reducible apply Kp.seqL); with_reducible assumption) | ((with_reducible apply fresh_ne); with_reducible assumption) | ((with_reducible apply Dw.same); with_reducible assumption))); done)); exact rfl)
          | with_reducible assumption
          | with_reducible apply Bd.mulW
          | with_reducible apply Bd.mul
          | with_reducible apply Bd.add
          | with_reducible apply Bd.sub
          | ((with_reducible apply Bd.l8); exact eq_true (by decide))
          | ((with_reducible apply Bd.lit); exact eq_true (by decide))
          | with_reducible apply Bd.neg
          | with_reducible apply Bd.div
          | with_reducible apply Bd.abs
          | with_reducible apply Bd.mod
          | with_reducible apply Bd.fdiv
          | ((with_reducible apply Bd.om); omega)
          | ((with_reducible apply R.isLe); first | decide | omega)
          | with_reducible apply R.un
          | with_reducible apply R.u1
          | with_reducible apply R.tup
          | with_reducible apply R.lst
          | with_reducible apply R.call
          | with_reducible apply R.callB
          | with_reducible apply R.gtup
          | with_reducible apply R.gnil
          | with_reducible apply R.seq
          | with_reducible apply R.asg
          | with_reducible apply R.ret
          | with_reducible apply R.brk
          | with_reducible apply R.cont
          | with_reducible apply R.next
          | with_reducible apply R.drop
          | with_reducible apply R.par
          | with_reducible apply R.par2
          | with_reducible apply R.ifs
          | with_reducible apply R.tif
          | with_reducible apply R.test
          | with_reducible apply R.tb'
          | with_reducible apply R.isbl
          | with_reducible apply R.cmp
          | with_reducible apply R.t2i
          | with_reducible apply R.intp
          | with_reducible apply R.and
          | with_reducible apply R.or
          | with_reducible apply R.not
          | with_reducible apply R.andV
          | with_reducible apply R.orV
          | with_reducible apply R.notV
          | with_reducible apply R.chain
          | with_reducible apply R.tupL
          | with_reducible apply R.lstL
          | with_reducible apply R.cat
          | with_reducible apply R.absI
          | with_reducible apply R.intI
          | with_reducible apply R.intB
          | with_reducible apply R.eqS
          | with_reducible apply R.eqBl
          | with_reducible apply R.neBl
          | with_reducible apply R.sl
          | with_reducible apply R.noPart
          | with_reducible apply R.part
          | with_reducible apply R.isInt
          | with_reducible apply R.slL
          | with_reducible apply R.isiT
          | with_reducible apply R.isiLst
          | with_reducible apply R.nwT
          | with_reducible apply R.nwL
          | ((with_reducible apply R.mt); intro HN tn sn nn ht)
          | ((with_reducible apply R.ml); intro HN tn sn nn ht)
          | ((with_reducible apply R.isiTupS); focus ((repeat' (first | with_reducible assumption | with_reducible apply hU | ((with_reducible apply SqT.of); with_reducible assumption) | ((with_reducible apply same_seqT); with_reducible assumption) | ((with_reducible apply kp_seqT); with_reducible assumption) | ((with_reducible apply Dw.same); with_reducible assumption))); done))
          | ((with_reducible apply R.ne4); focus ((repeat' (first | with_reducible assumption | with_reducible apply hU | ((with_reducible apply SqT.of); with_reducible assumption) | ((with_reducible apply same_seqT); with_reducible assumption) | ((with_reducible apply kp_seqT); with_reducible assumption) | ((with_reducible apply Dw.same); with_reducible assumption))); done))
          | ((with_reducible apply R.ne3); focus ((repeat' (first | with_reducible assumption | with_reducible apply hU | ((with_reducible apply SqT.of); with_reducible assumption) | ((with_reducible apply same_seqT); with_reducible assumption) | ((with_reducible apply kp_seqT); with_reducible assumption) | ((with_reducible apply Dw.same); with_reducible assumption))); done))
          | ((with_reducible apply R.ne2); focus ((repeat' (first | with_reducible assumption | with_reducible apply hU | ((with_reducible apply SqT.of); with_reducible assumption) | ((with_reducible apply same_seqT); with_reducible assumption) | ((with_reducible apply kp_seqT); with_reducible assumption) | ((with_reducible apply Dw.same); with_reducible assumption))); done))
          | ((with_reducible apply R.eq4); focus ((repeat' (first | with_reducible assumption | with_reducible apply hU | ((with_reducible apply SqT.of); with_reducible assumption) | ((with_reducible apply same_seqT); with_reducible assumption) | ((with_reducible apply kp_seqT); with_reducible assumption) | ((with_reducible apply Dw.same); with_reducible assumption))); done))
          | ((with_reducible apply R.eq3); focus ((repeat' (first | with_reducible assumption | with_reducible apply hU | ((with_reducible apply SqT.of); with_reducible assumption) | ((with_reducible apply same_seqT); with_reducible assumption) | ((with_reducible apply kp_seqT); with_reducible assumption) | ((with_reducible apply Dw.same); with_reducible assumption))); done))
          | ((with_reducible apply R.eq2); focus ((repeat' (first | with_reducible assumption | with_reducible apply hU | ((with_reducible apply SqT.of); with_reducible assumption) | ((with_reducible apply same_seqT); with_reducible assumption) | ((with_reducible apply kp_seqT); with_reducible assumption) | ((with_reducible apply Dw.same); with_reducible assumption))); done))
          | with_reducible apply uLawNext
          | with_reducible apply uLawWide
          | ((with_reducible apply R.nw); intro HN tn sn ht)
          | with_reducible apply iteT
          | with_reducible apply iteF
          | with_reducible apply R.notT
          | with_reducible apply R.notF
          | ((with_reducible apply SqT.of); with_reducible assumption)
          | ((with_reducible apply SqL.of); with_reducible assumption)
          | ((with_reducible apply same_seqT); with_reducible assumption)
          | ((with_reducible apply sameB); with_reducible assumption)
          | ((with_reducible apply same_at); with_reducible assumption)
          | ((with_reducible apply kp_seqT); with_reducible assumption)
          | ((with_reducible apply Same.seq); with_reducible assumption)
          | ((with_reducible apply Kp.seqL); with_reducible assumption)
          | ((with_reducible apply fresh_ne); with_reducible assumption)
          | ((with_reducible apply Dw.same); with_reducible assumption)
          | ((with_reducible apply R.isEq); exact eq_true (by first | decide | omega))
          | ((with_reducible apply R.isLt); first | decide | omega)
          | ((with_reducible apply R.isLtI); first | decide | omega)
          | ((with_reducible apply R.isLeI); first | decide | omega)
          | ((with_reducible apply R.cdiv); exact rfl)
          | ((with_reducible apply R.cpow); exact rfl)
          | with_reducible apply R.cdivX
          | ((with_reducible apply R.isNe); omega)
          | with_reducible apply hU
          | ((with_reducible apply wayNF); first | exact rfl | exact ⟨rfl, rfl⟩ | exact ⟨rfl, rfl, rfl⟩ | exact ⟨rfl, rfl, rfl, rfl⟩)
          | with_reducible apply R.forE
          | with_reducible apply R.rng1
          | with_reducible apply R.rng2
          | with_reducible apply R.rg1
          | with_reducible apply R.rg2
          | with_reducible apply R.lcE
          | with_reducible apply R.itup
          | with_reducible apply R.ilst
          )
        refine ⟨tn, _, _, _, hin, rfl, ?_, sn _ _ hdp3, sn _ _ hpp3, dw3.same sn⟩
        rw [e2, e1]
        exact ht
      · obtain rfl : i = n := by omega
        have hj : valV (ckv f i) (ckey (f i)) = some (.int (j : Int)) := ckv_some (j := j) hrep.symm hjn fun a ha => fun e => hun a j ha hjn (e.trans hrep)
        rw [hj]
        repeat' (first
          | with_reducible apply R.var
          | ((with_reducible apply R.isEq); exact rfl)
          | with_reducible apply R.op
          | with_reducible apply R.i2
          | with_reducible apply R.i0
          | with_reducible apply R.con
          | with_reducible apply R.cons
          | with_reducible apply R.nil
          | with_reducible apply R.gcons
          | with_reducible apply R.gname
          | ((with_reducible apply R.ixT); (focus ((repeat' (first | with_reducible assumption | with_reducible apply hU | ((with_reducible apply SqT.of); with_reducible assumption) | ((with_reducible apply same_seqT); with_reducible assumption) | ((with_reducible apply kp_seqT); with_reducible assumption) | ((with_reducible apply Dw.same); with_reducible assumption))); done)); exact rfl)
          | ((with_reducible apply R.ixL); (focus ((repeat' (first | with_reducible assumption | ((with_reducible apply SqL.of); with_reducible assumption) | ((with_reducible apply Same.seq); with_reducible assumption) | ((with_reducible apply Kp.seqL); with_reducible assumption) | ((with_reducible apply fresh_ne); with_reducible assumption) | ((with_reducible apply Dw.same); with_reducible assumption))); done)); exact rfl)
          | with_reducible assumption
          | with_reducible apply Bd.mulW
          | with_reducible apply Bd.mul
          | with_reducible apply Bd.add
          | with_reducible apply Bd.sub
          | ((with_reducible apply Bd.l8); exact eq_true (by decide))
          | ((with_reducible apply Bd.lit); exact eq_true (by decide))
          | with_reducible apply Bd.neg
          | with_reducible apply Bd.div
          | with_reducible apply Bd.abs
          | with_reducible apply Bd.mod
          | with_reducible apply Bd.fdiv
          | ((with_reducible apply Bd.om); omega)
          | ((with_reducible apply R.isLe); first | decide | omega)
          | with_reducible apply R.un
          | with_reducible apply R.u1
          | with_reducible apply R.tup
          | with_reducible apply R.lst
          | with_reducible apply R.call
          | with_reducible apply R.callB
          | with_reducible apply R.gtup
          | with_reducible apply R.gnil
          | with_reducible apply R.seq
          | with_reducible apply R.asg
          | with_reducible apply R.ret
          | with_reducible apply R.brk
          | with_reducible apply R.cont
          | with_reducible apply R.next
          | with_reducible apply R.drop
          | with_reducible apply R.par
          | with_reducible apply R.par2
          | with_reducible apply R.ifs
          | with_reducible apply R.tif
          | with_reducible apply R.test
          | with_reducible apply R.tb'
          | with_reducible apply R.isbl
          | with_reducible apply R.cmp
          | with_reducible apply R.t2i
          | with_reducible apply R.intp
          | with_reducible apply R.and
          | with_reducible apply R.or
          | with_reducible apply R.not
          | with_reducible apply R.andV
          | with_reducible apply R.orV
          | with_reducible apply R.notV
          | with_reducible apply R.chain
          | with_reducible apply R.tupL
          | with_reducible apply R.lstL
          | with_reducible apply R.cat
          | with_reducible apply R.absI
          | with_reducible apply R.intI
          | with_reducible apply R.intB
          | with_reducible apply R.eqS
          | with_reducible apply R.eqBl
          | with_reducible apply R.neBl
          | with_reducible apply R.sl
          | with_reducible apply R.noPart
          | with_reducible apply R.part
          | with_reducible apply R.isInt
          | with_reducible apply R.slL
          | with_reducible apply R.isiT
          | with_reducible apply R.isiLst
          | with_reducible apply R.nwT
          | with_reducible apply R.nwL
          | ((with_reducible apply R.mt); intro HN tn sn nn ht)
          | ((with_reducible apply R.ml); intro HN tn sn nn ht)
          | ((with_reducible apply R.isiTupS); focus ((repeat' (first | with_reducible assumption | with_reducible apply hU | ((with_reducible apply SqT.of); with_reducible assumption) | ((with_reducible apply same_seqT); with_reducible assumption) | ((with_reducible apply kp_seqT); with_reducible assumption) | ((with_reducible apply Dw.same); with_reducible assumption))); done))
          | ((with_reducible apply R.ne4); focus ((repeat' (first | with_reducible assumption | with_reducible apply hU | ((with_reducible apply SqT.of); with_reducible assumption) | ((with_reducible apply same_seqT); with_reducible assumption) | ((with_reducible apply kp_seqT); with_reducible assumption) | ((with_reducible apply Dw.same); with_reducible assumption))); done))
          | ((with_reducible apply R.ne3); focus ((repeat' (first | with_reducible assumption | with_reducible apply hU | ((with_reducible apply SqT.of); with_reducible assumption) | ((with_reducible apply same_seqT); with_reducible assumption) | ((with_reducible apply kp_seqT); with_reducible assumption) | ((with_reducible apply Dw.same); with_reducible assumption))); done))
          | ((with_reducible apply R.ne2); focus ((repeat' (first | with_reducible assumption | with_reducible apply hU | ((with_reducible apply SqT.of); with_reducible assumption) | ((with_reducible apply same_seqT); with_reducible assumption) | ((with_reducible apply kp_seqT); with_reducible assumption) | ((with_reducible apply Dw.same); with_reducible assumption))); done))
          | ((with_reducible apply R.eq4); focus ((repeat' (first | with_reducible assumption | with_reducible apply hU | ((with_reducible apply SqT.of); with_reducible assumption) | ((with_reducible apply same_seqT); with_reducible assumption) | ((with_reducible apply kp_seqT); with_reducible assumption) | ((with_reducible apply Dw.same); with_reducible assumption))); done))
          | ((with_reducible apply R.eq3); focus ((repeat' (first | with_reducible assumption | with_reducible apply hU | ((with_reducible apply SqT.of); with_reducible assumption) | ((with_reducible apply same_seqT); with_reducible assumption) | ((with_reducible apply kp_seqT); with_reducible assumption) | ((with_reducible apply Dw.same); with_reducible assumption))); done))
          | ((with_reducible apply R.eq2); focus ((repeat' (first | with_reducible assumption | with_reducible apply hU | ((with_reducible apply SqT.of); with_reducible assumption) | ((with_reducible apply same_seqT); with_reducible assumption) | ((with_reducible apply kp_seqT); with_reducible assumption) | ((with_reducible apply Dw.same); with_reducible assumption))); done))
          | with_reducible apply uLawNext
          | with_reducible apply uLawWide
          | ((with_reducible apply R.nw); intro HN tn sn ht)
          | with_reducible apply iteT
          | with_reducible apply iteF
          | with_reducible apply R.notT
          | with_reducible apply R.notF
          | ((with_reducible apply SqT.of); with_reducible assumption)
          | ((with_reducible apply SqL.of); with_reducible assumption)
          | ((with_reducible apply same_seqT); with_reducible assumption)
          | ((with_reducible apply sameB); with_reducible assumption)
          | ((with_reducible apply same_at); with_reducible assumption)
          | ((with_reducible apply kp_seqT); with_reducible assumption)
          | ((with_reducible apply Same.seq); with_reducible assumption)
          | ((with_reducible apply Kp.seqL); with_reducible assumption)
          | ((with_reducible apply fresh_ne); with_reducible assumption)
          | ((with_reducible apply Dw.same); with_reducible assumption)
          | ((with_reducible apply R.isEq); exact eq_true (by first | decide | omega))
          | ((with_reducible apply R.isLt); first | decide | omega)
          | ((with_reducible apply R.isLtI); first | decide | omega)
          | ((with_reducible apply R.isLeI); first | decide | omega)
          | ((with_reducible apply R.cdiv); exact rfl)
          | ((with_reducible apply R.cpow); exact rfl)
          | with_reducible apply R.cdivX
          | ((with_reducible apply R.isNe); omega)
          | with_reducible apply hU
          | ((with_reducible apply wayNF); first | exact rfl | exact ⟨rfl, rfl⟩ | exact ⟨rfl, rfl, rfl⟩ | exact ⟨rfl, rfl, rfl, rfl⟩)
          | with_reducible apply R.forE
          | with_reducible apply R.rng1
          | with_reducible apply R.rng2
          | with_reducible apply R.rg1
          | with_reducible apply R.rg2
          | with_reducible apply R.lcE
          | with_reducible apply R.itup
          | with_reducible apply R.ilst
          )
        refine iteT ?_
        repeat' (first
          | with_reducible apply R.var
          | ((with_reducible apply R.isEq); exact rfl)
          | with_reducible apply R.op
          | with_reducible apply R.i2
          | with_reducible apply R.i0
          | with_reducible apply R.con
          | with_reducible apply R.cons
          | with_reducible apply R.nil
          | with_reducible apply R.gcons
          | with_reducible apply R.gname
          | ((with_reducible apply R.ixT); (focus ((repeat' (first | with_reducible assumption | with_reducible apply hU | ((with_reducible apply SqT.of); with_reducible assumption) | ((with_reducible apply same_seqT); with_reducible assumption) | ((with_reducible apply kp_seqT); with_reducible assumption) | ((with_reducible apply Dw.same); with_reducible assumption))); done)); exact rfl)
          | ((with_reducible apply R.ixL); (focus ((repeat' (first | with_reducible assumption | ((with_reducible apply SqL.of); with_reducible assumption) | ((with_reducible apply Same.seq); with_reducible assumption) | ((with_reducible apply Kp.seqL); with_reducible assumption) | ((with_reducible apply fresh_ne); with_reducible assumption) | ((with_reducible apply Dw.same); with_reducible assumption))); done)); exact rfl)
          | with_reducible assumption
          | with_reducible apply Bd.mulW
          | with_reducible apply Bd.mul
          | with_reducible apply Bd.add
          | with_reducible apply Bd.sub
          | ((with_reducible apply Bd.l8); exact eq_true (by decide))
          | ((with_reducible apply Bd.lit); exact eq_true (by decide))
          | with_reducible apply Bd.neg
          | with_reducible apply Bd.div
          | with_reducible apply Bd.abs
          | with_reducible apply Bd.mod
          | with_reducible apply Bd.fdiv
          | ((with_reducible apply Bd.om); omega)
          | ((with_reducible apply R.isLe); first | decide | omega)
          | with_reducible apply R.un
          | with_reducible apply R.u1
          | with_reducible apply R.tup
          | with_reducible apply R.lst
          | with_reducible apply R.call
          | with_reducible apply R.callB
          | with_reducible apply R.gtup
          | with_reducible apply R.gnil
          | with_reducible apply R.seq
          | with_reducible apply R.asg
          | with_reducible apply R.ret
          | with_reducible apply R.brk
          | with_reducible apply R.cont
          | with_reducible apply R.next
          | with_reducible apply R.drop
          | with_reducible apply R.par
          | with_reducible apply R.par2
          | with_reducible apply R.ifs
          | with_reducible apply R.tif
          | with_reducible apply R.test
          | with_reducible apply R.tb'
          | with_reducible apply R.isbl
          | with_reducible apply R.cmp
          | with_reducible apply R.t2i
          | with_reducible apply R.intp
          | with_reducible apply R.and
          | with_reducible apply R.or
          | with_reducible apply R.not
          | with_reducible apply R.andV
          | with_reducible apply R.orV
          | with_reducible apply R.notV
          | with_reducible apply R.chain
          | with_reducible apply R.tupL
          | with_reducible apply R.lstL
          | with_reducible apply R.cat
          | with_reducible apply R.absI
          | with_reducible apply R.intI
          | with_reducible apply R.intB
          | with_reducible apply R.eqS
          | with_reducible apply R.eqBl
          | with_reducible apply R.neBl
          | with_reducible apply R.sl
          | with_reducible apply R.noPart
          | with_reducible apply R.part
          | with_reducible apply R.isInt
          | with_reducible apply R.slL
          | with_reducible apply R.isiT
          | with_reducible apply R.isiLst
          | with_reducible apply R.nwT
          | with_reducible apply R.nwL
          | ((with_reducible apply R.mt); intro HN tn sn nn ht)
          | ((with_reducible apply R.ml); intro HN tn sn nn ht)
          | ((with_reducible apply R.isiTupS); focus ((repeat' (first | with_reducible assumption | with_reducible apply hU | ((with_reducible apply SqT.of); with_reducible assumption) | ((with_reducible apply same_seqT); with_reducible assumption) | ((with_reducible apply kp_seqT); with_reducible assumption) | ((with_reducible apply Dw.same); with_reducible assumption))); done))
          | ((with_reducible apply R.ne4); focus ((repeat' (first | with_reducible assumption | with_reducible apply hU | ((with_reducible apply SqT.of); with_reducible assumption) | ((with_reducible apply same_seqT); with_reducible assumption) | ((with_reducible apply kp_seqT); with_reducible assumption) | ((with_reducible apply Dw.same); with_reducible assumption))); done))
          | ((with_reducible apply R.ne3); focus ((repeat' (first | with_reducible assumption | with_reducible apply hU | ((with_reducible apply SqT.of); with_reducible assumption) | ((with_reducible apply same_seqT); with_reducible assumption) | ((with_reducible apply kp_seqT); with_reducible assumption) | ((with_reducible apply Dw.same); with_reducible assumption))); done))
          | ((with_reducible apply R.ne2); focus ((repeat' (first | with_reducible assumption | with_reducible apply hU | ((with_reducible apply SqT.of); with_reducible assumption) | ((with_reducible apply same_seqT); with_reducible assumption) | ((with_reducible apply kp_seqT); with_reducible assumption) | ((with_reducible apply Dw.same); with_reducible assumption))); done))
          | ((with_reducible apply R.eq4); focus ((repeat' (first | with_reducible assumption | with_reducible apply hU | ((with_reducible apply SqT.of); with_reducible assumption) | ((with_reducible apply same_seqT); with_reducible assumption) | ((with_reducible apply kp_seqT); with_reducible assumption) | ((with_reducible apply Dw.same); with_reducible assumption))); done))
          | ((with_reducible apply R.eq3); focus ((repeat' (first | with_reducible assumption | with_reducible apply hU | ((with_reducible apply SqT.of); with_reducible assumption) | ((with_reducible apply same_seqT); with_reducible assumption) | ((with_reducible apply kp_seqT); with_reducible assumption) | ((with_reducible apply Dw.same); with_reducible assumption))); done))
          | ((with_reducible apply R.eq2); focus ((repeat' (first | with_reducible assumption | with_reducible apply hU | ((with_reducible apply SqT.of); with_reducible assumption) | ((with_reducible apply same_seqT); with_reducible assumption) | ((with_reducible apply kp_seqT); with_reducible assumption) | ((with_reducible apply Dw.same); with_reducible assumption))); done))
          | with_reducible apply uLawNext
          | with_reducible apply uLawWide
          | ((with_reducible apply R.nw); intro HN tn sn ht)
          | with_reducible apply iteT
          | with_reducible apply iteF
          | with_reducible apply R.notT
          | with_reducible apply R.notF
          | ((with_reducible apply SqT.of); with_reducible assumption)
          | ((with_reducible apply SqL.of); with_reducible assumption)
          | ((with_reducible apply same_seqT); with_reducible assumption)
          | ((with_reducible apply sameB); with_reducible assumption)
          | ((with_reducible apply same_at); with_reducible assumption)
          | ((with_reducible apply kp_seqT); with_reducible assumption)
          | ((with_reducible apply Same.seq); with_reducible assumption)
          | ((with_reducible apply Kp.seqL); with_reducible assumption)
          | ((with_reducible apply fresh_ne); with_reducible assumption)
          | ((with_reducible apply Dw.same); with_reducible assumption)
          | ((with_reducible apply R.isEq); exact eq_true (by first | decide | omega))
          | ((with_reducible apply R.isLt); first | decide | omega)
          | ((with_reducible apply R.isLtI); first | decide | omega)
          | ((with_reducible apply R.isLeI); first | decide | omega)
          | ((with_reducible apply R.cdiv); exact rfl)
          | ((with_reducible apply R.cpow); exact rfl)
          | with_reducible apply R.cdivX
          | ((with_reducible apply R.isNe); omega)
          | with_reducible apply hU
          | ((with_reducible apply wayNF); first | exact rfl | exact ⟨rfl, rfl⟩ | exact ⟨rfl, rfl, rfl⟩ | exact ⟨rfl, rfl, rfl, rfl⟩)
          | with_reducible apply R.forE
          | with_reducible apply R.rng1
          | with_reducible apply R.rng2
          | with_reducible apply R.rg1
          | with_reducible apply R.rg2
          | with_reducible apply R.lcE
          | with_reducible apply R.itup
          | with_reducible apply R.ilst
          )
        refine ⟨_, rfl, _, rfl, dp, .int (j : Int), rfl, (by rw [← hj]; exact DGet.t (k := ckey (f i)) hdp hta), ?_⟩
        repeat' (first
          | with_reducible apply R.var
          | ((with_reducible apply R.isEq); exact rfl)
          | with_reducible apply R.op
          | with_reducible apply R.i2
          | with_reducible apply R.i0
          | with_reducible apply R.con
          | with_reducible apply R.cons
          | with_reducible apply R.nil
          | with_reducible apply R.gcons
          | with_reducible apply R.gname
          | ((with_reducible apply R.ixT); (focus ((repeat' (first | with_reducible assumption | with_reducible apply hU | ((with_reducible apply SqT.of); with_reducible assumption) | ((with_reducible apply same_seqT); with_reducible assumption) | ((with_reducible apply kp_seqT); with_reducible assumption) | ((with_reducible apply Dw.same); with_reducible assumption))); done)); exact rfl)
          | ((with_reducible apply R.ixL); (focus ((repeat' (first | with_reducible assumption | ((with_reducible apply SqL.of); with_reducible assumption) | ((with_reducible apply Same.seq); with_reducible assumption) | ((with_reducible apply Kp.seqL); with_reducible assumption) | ((with_reducible apply fresh_ne); with_reducible assumption) | ((with_reducible apply Dw.same); with_reducible assumption))); done)); exact rfl)
          | with_reducible assumption
          | with_reducible apply Bd.mulW
          | with_reducible apply Bd.mul
          | with_reducible apply Bd.add
          | with_reducible apply Bd.sub
          | ((with_reducible apply Bd.l8); exact eq_true (by decide))
          | ((with_reducible apply Bd.lit); exact eq_true (by decide))
          | with_reducible apply Bd.neg
          | with_reducible apply Bd.div
          | with_reducible apply Bd.abs
          | with_reducible apply Bd.mod
          | with_reducible apply Bd.fdiv
          | ((with_reducible apply Bd.om); omega)
          | ((with_reducible apply R.isLe); first | decide | omega)
          | with_reducible apply R.un
          | with_reducible apply R.u1
          | with_reducible apply R.tup
          | with_reducible apply R.lst
          | with_reducible apply R.call
          | with_reducible apply R.callB
          | with_reducible apply R.gtup
          | with_reducible apply R.gnil
          | with_reducible apply R.seq
          | with_reducible apply R.asg
          | with_reducible apply R.ret
          | with_reducible apply R.brk
          | with_reducible apply R.cont
          | with_reducible apply R.next
          | with_reducible apply R.drop
          | with_reducible apply R.par
          | with_reducible apply R.par2
          | with_reducible apply R.ifs
          | with_reducible apply R.tif
          | with_reducible apply R.test
          | with_reducible apply R.tb'
          | with_reducible apply R.isbl
          | with_reducible apply R.cmp
          | with_reducible apply R.t2i
          | with_reducible apply R.intp
          | with_reducible apply R.and
          | with_reducible apply R.or
          | with_reducible apply R.not
          | with_reducible apply R.andV
          | with_reducible apply R.orV
          | with_reducible apply R.notV
          | with_reducible apply R.chain
          | with_reducible apply R.tupL
          | with_reducible apply R.lstL
          | with_reducible apply R.cat
          | with_reducible apply R.absI
          | with_reducible apply R.intI
          | with_reducible apply R.intB
          | with_reducible apply R.eqS
          | with_reducible apply R.eqBl
          | with_reducible apply R.neBl
          | with_reducible apply R.sl
          | with_reducible apply R.noPart
          | with_reducible apply R.part
          | with_reducible apply R.isInt
          | with_reducible apply R.slL
          | with_reducible apply R.isiT
          | with_reducible apply R.isiLst
          | with_reducible apply R.nwT
          | with_reducible apply R.nwL
          | ((with_reducible apply R.mt); intro HN tn sn nn ht)
          | ((with_reducible apply R.ml); intro HN tn sn nn ht)
          | ((with_reducible apply R.isiTupS); focus ((repeat' (first | with_reducible assumption | with_reducible apply hU | ((with_reducible apply SqT.of); with_reducible assumption) | ((with_reducible apply same_seqT); with_reducible assumption) | ((with_reducible apply kp_seqT); with_reducible assumption) | ((with_reducible apply Dw.same); with_reducible assumption))); done))
          | ((with_reducible apply R.ne4); focus ((repeat' (first | with_reducible assumption | with_reducible apply hU | ((with_reducible apply SqT.of); with_reducible assumption) | ((with_reducible apply same_seqT); with_reducible assumption) | ((with_reducible apply kp_seqT); with_reducible assumption) | ((with_reducible apply Dw.same); with_reducible assumption))); done))
          | ((with_reducible apply R.ne3); focus ((repeat' (first | with_reducible assumption | with_reducible apply hU | ((with_reducible apply SqT.of); with_reducible assumption) | ((with_reducible apply same_seqT); with_reducible assumption) | ((with_reducible apply kp_seqT); with_reducible assumption) | ((with_reducible apply Dw.same); with_reducible assumption))); done))
          | ((with_reducible apply R.ne2); focus ((repeat' (first | with_reducible assumption | with_reducible apply hU | ((with_reducible apply SqT.of); with_reducible assumption) | ((with_reducible apply same_seqT); with_reducible assumption) | ((with_reducible apply kp_seqT); with_reducible assumption) | ((with_reducible apply Dw.same); with_reducible assumption))); done))
          | ((with_reducible apply R.eq4); focus ((repeat' (first | with_reducible assumption | with_reducible apply hU | ((with_reducible apply SqT.of); with_reducible assumption) | ((with_reducible apply same_seqT); with_reducible assumption) | ((with_reducible apply kp_seqT); with_reducible assumption) | ((with_reducible apply Dw.same); with_reducible assumption))); done))
          | ((with_reducible apply R.eq3); focus ((repeat' (first | with_reducible assumption | with_reducible apply hU | ((with_reducible apply SqT.of); with_reducible assumption) | ((with_reducible apply same_seqT); with_reducible assumption) | ((with_reducible apply kp_seqT); with_reducible assumption) | ((with_reducible apply Dw.same); with_reducible assumption))); done))
          | ((with_reducible apply R.eq2); focus ((repeat' (first | with_reducible assumption | with_reducible apply hU | ((with_reducible apply SqT.of); with_reducible assumption) | ((with_reducible apply same_seqT); with_reducible assumption) | ((with_reducible apply kp_seqT); with_reducible assumption) | ((with_reducible apply Dw.same); with_reducible assumption))); done))
          | with_reducible apply uLawNext
          | with_reducible apply uLawWide
          | ((with_reducible apply R.nw); intro HN tn sn ht)
          | with_reducible apply iteT
          | with_reducible apply iteF
          | with_reducible apply R.notT
          | with_reducible apply R.notF
          | ((with_reducible apply SqT.of); with_reducible assumption)
          | ((with_reducible apply SqL.of); with_reducible assumption)
          | ((with_reducible apply same_seqT); with_reducible assumption)
          | ((with_reducible apply sameB); with_reducible assumption)
          | ((with_reducible apply same_at); with_reducible assumption)
          | ((with_reducible apply kp_seqT); with_reducible assumption)
          | ((with_reducible apply Same.seq); with_reducible assumption)
          | ((with_reducible apply Kp.seqL); with_reducible assumption)
          | ((with_reducible apply fresh_ne); with_reducible assumption)
          | ((with_reducible apply Dw.same); with_reducible assumption)
          | ((with_reducible apply R.isEq); exact eq_true (by first | decide | omega))
          | ((with_reducible apply R.isLt); first | decide | omega)
          | ((with_reducible apply R.isLtI); first | decide | omega)
          | ((with_reducible apply R.isLeI); first | decide | omega)
          | ((with_reducible apply R.cdiv); exact rfl)
          | ((with_reducible apply R.cpow); exact rfl)
          | with_reducible apply R.cdivX
          | ((with_reducible apply R.isNe); omega)
          | with_reducible apply hU
          | ((with_reducible apply wayNF); first | exact rfl | exact ⟨rfl, rfl⟩ | exact ⟨rfl, rfl, rfl⟩ | exact ⟨rfl, rfl, rfl, rfl⟩)
          | with_reducible apply R.forE
          | with_reducible apply R.rng1
          | with_reducible apply R.rng2
          | with_reducible apply R.rg1
          | with_reducible apply R.rg2
          | with_reducible apply R.lcE
          | with_reducible apply R.itup
          | with_reducible apply R.ilst
          )
        refine ⟨pv, q, d, i, j, rfl, ex, fun H7 t t1 t2 s7 ht7 ht1 ht2 => ?_⟩
        have hpp7 := s7 _ _ hpp
        generalize hpl : (List.range i).map (cfa d (pv, q)) = pl at *
        have hpll : pl.length = i := by rw [← hpl, List.length_map, List.length_range]
        repeat' (first
          | with_reducible apply R.var
          | ((with_reducible apply R.isEq); exact rfl)
          | with_reducible apply R.op
          | with_reducible apply R.i2
          | with_reducible apply R.i0
          | with_reducible apply R.con
          | with_reducible apply R.cons
          | with_reducible apply R.nil
          | with_reducible apply R.gcons
          | with_reducible apply R.gname
          | ((with_reducible apply R.ixT); (focus ((repeat' (first | with_reducible assumption | with_reducible apply hU | ((with_reducible apply SqT.of); with_reducible assumption) | ((with_reducible apply same_seqT); with_reducible assumption) | ((with_reducible apply kp_seqT); with_reducible assumption) | ((with_reducible apply Dw.same); with_reducible assumption))); done)); exact rfl)
          | ((with_reducible apply R.ixL); (focus ((repeat' (first | with_reducible assumption | ((with_reducible apply SqL.of); with_reducible assumption) | ((with_reducible apply Same.seq); with_reducible assumption) | ((with_reducible apply Kp.seqL); with_reducible assumption) | ((with_reducible apply fresh_ne); with_reducible assumption) | ((with_reducible apply Dw.same); with_reducible assumption))); done)); exact rfl)
          | with_reducible assumption
          | with_reducible apply Bd.mulW
          | with_reducible apply Bd.mul
          | with_reducible apply Bd.add
          | with_reducible apply Bd.sub
          | ((with_reducible apply Bd.l8); exact eq_true (by decide))
          | ((with_reducible apply Bd.lit); exact eq_true (by decide))
          | with_reducible apply Bd.neg
          | with_reducible apply Bd.div
          | with_reducible apply Bd.abs
          | with_reducible apply Bd.mod
          | with_reducible apply Bd.fdiv
          | ((with_reducible apply Bd.om); omega)
          | ((with_reducible apply R.isLe); first | decide | omega)
          | with_reducible apply R.un
          | with_reducible apply R.u1
          | with_reducible apply R.tup
          | with_reducible apply R.lst
          | with_reducible apply R.call
          | with_reducible apply R.callB
          | with_reducible apply R.gtup
          | with_reducible apply R.gnil
          | with_reducible apply R.seq
          | with_reducible apply R.asg
          | with_reducible apply R.ret
          | with_reducible apply R.brk
          | with_reducible apply R.cont
          | with_reducible apply R.next
          | with_reducible apply R.drop
          | with_reducible apply R.par
          | with_reducible apply R.par2
          | with_reducible apply R.ifs
          | with_reducible apply R.tif
          | with_reducible apply R.test
          | with_reducible apply R.tb'
          | with_reducible apply R.isbl
          | with_reducible apply R.cmp
          | with_reducible apply R.t2i
          | with_reducible apply R.intp
          | with_reducible apply R.and
          | with_reducible apply R.or
          | with_reducible apply R.not
          | with_reducible apply R.andV
          | with_reducible apply R.orV
          | with_reducible apply R.notV
          | with_reducible apply R.chain
          | with_reducible apply R.tupL
          | with_reducible apply R.lstL
          | with_reducible apply R.cat
          | with_reducible apply R.absI
          | with_reducible apply R.intI
          | with_reducible apply R.intB
          | with_reducible apply R.eqS
          | with_reducible apply R.eqBl
          | with_reducible apply R.neBl
          | with_reducible apply R.sl
          | with_reducible apply R.noPart
          | with_reducible apply R.part
          | with_reducible apply R.isInt
          | with_reducible apply R.slL
          | with_reducible apply R.isiT
          | with_reducible apply R.isiLst
          | with_reducible apply R.nwT
          | with_reducible apply R.nwL
          | ((with_reducible apply R.mt); intro HN tn sn nn ht)
          | ((with_reducible apply R.ml); intro HN tn sn nn ht)
          | ((with_reducible apply R.isiTupS); focus ((repeat' (first | with_reducible assumption | with_reducible apply hU | ((with_reducible apply SqT.of); with_reducible assumption) | ((with_reducible apply same_seqT); with_reducible assumption) | ((with_reducible apply kp_seqT); with_reducible assumption) | ((with_reducible apply Dw.same); with_reducible assumption))); done))
          | ((with_reducible apply R.ne4); focus ((repeat' (first | with_reducible assumption | with_reducible apply hU | ((with_reducible apply SqT.of); with_reducible assumption) | ((with_reducible apply same_seqT); with_reducible assumption) | ((with_reducible apply kp_seqT); with_reducible assumption) | ((with_reducible apply Dw.same); with_reducible assumption))); done))
          | ((with_reducible apply R.ne3); focus ((repeat' (first | with_reducible assumption | with_reducible apply hU | ((with_reducible apply SqT.of); with_reducible assumption) | ((with_reducible apply same_seqT); with_reducible assumption) | ((with_reducible apply kp_seqT); with_reducible assumption) | ((with_reducible apply Dw.same); with_reducible assumption))); done))
          | ((with_reducible apply R.ne2); focus ((repeat' (first | with_reducible assumption | with_reducible apply hU | ((with_reducible apply SqT.of); with_reducible assumption) | ((with_reducible apply same_seqT); with_reducible assumption) | ((with_reducible apply kp_seqT); with_reducible assumption) | ((with_reducible apply Dw.same); with_reducible assumption))); done))
          | ((with_reducible apply R.eq4); focus ((repeat' (first | with_reducible assumption | with_reducible apply hU | ((with_reducible apply SqT.of); with_reducible assumption) | ((with_reducible apply same_seqT); with_reducible assumption) | ((with_reducible apply kp_seqT); with_reducible assumption) | ((with_reducible apply Dw.same); with_reducible assumption))); done))
          | ((with_reducible apply R.eq3); focus ((repeat' (first | with_reducible assumption | with_reducible apply hU | ((with_reducible apply SqT.of); with_reducible assumption) | ((with_reducible apply same_seqT); with_reducible assumption) | ((with_reducible apply kp_seqT); with_reducible assumption) | ((with_reducible apply Dw.same); with_reducible assumption))); done))
          | ((with_reducible apply R.eq2); focus ((repeat' (first | with_reducible assumption | with_reducible apply hU | ((with_reducible apply SqT.of); with_reducible assumption) | ((with_reducible apply same_seqT); with_reducible assumption) | ((with_reducible apply kp_seqT); with_reducible assumption) | ((with_reducible apply Dw.same); with_reducible assumption))); done))
          | with_reducible apply uLawNext
          | with_reducible apply uLawWide
          | ((with_reducible apply R.nw); intro HN tn sn ht)
          | with_reducible apply iteT
          | with_reducible apply iteF
          | with_reducible apply R.notT
          | with_reducible apply R.notF
          | ((with_reducible apply SqT.of); with_reducible assumption)
          | ((with_reducible apply SqL.of); with_reducible assumption)
          | ((with_reducible apply same_seqT); with_reducible assumption)
          | ((with_reducible apply sameB); with_reducible assumption)
          | ((with_reducible apply same_at); with_reducible assumption)
          | ((with_reducible apply kp_seqT); with_reducible assumption)
          | ((with_reducible apply Same.seq); with_reducible assumption)
          | ((with_reducible apply Kp.seqL); with_reducible assumption)
          | ((with_reducible apply fresh_ne); with_reducible assumption)
          | ((with_reducible apply Dw.same); with_reducible assumption)
          | ((with_reducible apply R.isEq); exact eq_true (by first | decide | omega))
          | ((with_reducible apply R.isLt); first | decide | omega)
          | ((with_reducible apply R.isLtI); first | decide | omega)
          | ((with_reducible apply R.isLeI); first | decide | omega)
          | ((with_reducible apply R.cdiv); exact rfl)
          | ((with_reducible apply R.cpow); exact rfl)
          | with_reducible apply R.cdivX
          | ((with_reducible apply R.isNe); omega)
          | with_reducible apply hU
          | ((with_reducible apply wayNF); first | exact rfl | exact ⟨rfl, rfl⟩ | exact ⟨rfl, rfl, rfl⟩ | exact ⟨rfl, rfl, rfl, rfl⟩)
          | with_reducible apply R.forE
          | with_reducible apply R.rng1
          | with_reducible apply R.rng2
          | with_reducible apply R.rg1
          | with_reducible apply R.rg2
          | with_reducible apply R.lcE
          | with_reducible apply R.itup
          | with_reducible apply R.ilst
          )
        refine neD_same (d := .tuple [.tuple ((pl.take j).map PyData.int), .tuple ((pl.drop j).map PyData.int)]) (.tup (by (repeat' (first | with_reducible assumption | with_reducible apply hU | ((with_reducible apply SqT.of); with_reducible assumption) | ((with_reducible apply same_seqT); with_reducible assumption) | ((with_reducible apply kp_seqT); with_reducible assumption) | ((with_reducible apply Dw.same); with_reducible assumption)))) (.cons (.tup (xs := (pl.take j).map V.int) (by (repeat' (first | with_reducible assumption | with_reducible apply hU | ((with_reducible apply SqT.of); with_reducible assumption) | ((with_reducible apply same_seqT); with_reducible assumption) | ((with_reducible apply kp_seqT); with_reducible assumption) | ((with_reducible apply Dw.same); with_reducible assumption)))) (dp_ints _)) (.cons (.tup (xs := (pl.drop j).map V.int) (by (repeat' (first | with_reducible assumption | with_reducible apply hU | ((with_reducible apply SqT.of); with_reducible assumption) | ((with_reducible apply same_seqT); with_reducible assumption) | ((with_reducible apply kp_seqT); with_reducible assumption) | ((with_reducible apply Dw.same); with_reducible assumption)))) (dp_ints _)) .nil))) (.tup (SqT.of ht) (.cons (.tup (xs := (pl.take j).map V.int) (by rw [← cut_to]; (repeat' (first | with_reducible assumption | with_reducible apply hU | ((with_reducible apply SqT.of); with_reducible assumption) | ((with_reducible apply same_seqT); with_reducible assumption) | ((with_reducible apply kp_seqT); with_reducible assumption) | ((with_reducible apply Dw.same); with_reducible assumption)))) (dp_ints _)) (.cons (.tup (xs := (pl.drop j).map V.int) (by rw [List.map_drop, ← cut_from]; (repeat' (first | with_reducible assumption | with_reducible apply hU | ((with_reducible apply SqT.of); with_reducible assumption) | ((with_reducible apply same_seqT); with_reducible assumption) | ((with_reducible apply kp_seqT); with_reducible assumption) | ((with_reducible apply Dw.same); with_reducible assumption)))) (dp_ints _)) .nil))) (shaped_two _ _) ?_
        have dwN : Dw HN p a N := by (repeat' (first   | with_reducible apply R.var   | ((with_reducible apply R.isEq); exact rfl)   | with_reducible apply R.op   | with_reducible apply R.i2   | with_reducible apply R.i0   | with_reducible apply R.con   | with_reducible apply R.cons   | with_reducible apply R.nil   | with_reducible apply R.gcons   | with_reducible apply R.gname   | ((with_reducible apply R.ixT); (focus ((repeat' (first | with_reducible assumption | with_reducible apply hU | ((with_reducible apply SqT.of); with_reducible assumption) | ((with_reducible apply same_seqT); with_reducible assumption) | ((with_reducible apply kp_seqT); with_reducible assumption) | ((with_reducible apply Dw.same); with_reducible assumption))); done)); exact rfl)   | ((with_reducible apply R.ixL); (focus ((repeat' (first | with_reducible assumption | ((with_reducible apply SqL.of); with_reducible assumption) | ((with_reducible apply Same.seq); with_reducible assumption) | ((with_reducible apply Kp.seqL); with_reducible assumption) | ((with_reducible apply fresh_ne); with_reducible assumption) | ((with_reducible apply Dw.same); with_reducible assumption))); done)); exact rfl)   | with_reducible assumption   | with_reducible apply Bd.mulW   | with_reducible apply Bd.mul   | with_reducible apply Bd.add   | with_reducible apply Bd.sub   | ((with_reducible apply Bd.l8); exact eq_true (by decide))   | ((with_reducible apply Bd.lit); exact eq_true (by decide))   | with_reducible apply Bd.neg   | with_reducible apply Bd.div   | with_reducible apply Bd.abs   | with_reducible apply Bd.mod   | with_reducible apply Bd.fdiv   | ((with_reducible apply Bd.om); omega)   | ((with_reducible apply R.isLe); first | decide | omega)   | with_reducible apply R.un   | with_reducible apply R.u1   | with_reducible apply R.tup   | with_reducible apply R.lst   | with_reducible apply R.call   | with_reducible apply R.callB   | with_reducible apply R.gtup   | with_reducible apply R.gnil   | with_reducible apply R.seq   | with_reducible apply R.asg   | with_reducible apply R.ret   | with_reducible apply R.brk   | with_reducible apply R.cont   | with_reducible apply R.next   | with_reducible apply R.drop   | with_reducible apply R.par   | with_reducible apply R.par2   | with_reducible apply R.ifs   | with_reducible apply R.tif   | with_reducible apply R.test   | with_reducible apply R.tb'   | with_reducible apply R.isbl   | with_reducible apply R.cmp   | with_reducible apply R.t2i   | with_reducible apply R.intp   | with_reducible apply R.and   | with_reducible apply R.or   | with_reducible apply R.not   | with_reducible apply R.andV   | with_reducible apply R.orV   | with_reducible apply R.notV   | with_reducible apply R.chain   | with_reducible apply R.tupL   | with_reducible apply R.lstL   | with_reducible apply R.cat   | with_reducible apply R.absI   | with_reducible apply R.intI   | with_reducible apply R.intB   | with_reducible apply R.eqS   | with_reducible apply R.eqBl   | with_reducible apply R.neBl   | with_reducible apply R.sl   | with_reducible apply R.noPart   | with_reducible apply R.part   | with_reducible apply R.isInt   | with_reducible apply R.slL   | with_reducible apply R.isiT   | with_reducible apply R.isiLst   | with_reducible apply R.nwT   | with_reducible apply R.nwL   | ((with_reducible apply R.mt); intro HN tn sn nn ht)   | ((with_reducible apply R.ml); intro HN tn sn nn ht)   | ((with_reducible apply R.isiTupS); focus ((repeat' (first | with_reducible assumption | with_reducible apply hU | ((with_reducible apply SqT.of); with_reducible assumption) | ((with_reducible apply same_seqT); with_reducible assumption) | ((with_reducible apply kp_seqT); with_reducible assumption) | ((with_reducible apply Dw.same); with_reducible assumption))); done))   | ((with_reducible apply R.ne4); focus ((repeat' (first | with_reducible assumption | with_reducible apply hU | ((with_reducible apply SqT.of); with_reducible assumption) | ((with_reducible apply same_seqT); with_reducible assumption) | ((with_reducible apply kp_seqT); with_reducible assumption) | ((with_reducible apply Dw.same); with_reducible assumption))); done))   | ((with_reducible apply R.ne3); focus ((repeat' (first | with_reducible assumption | with_reducible apply hU | ((with_reducible apply SqT.of); with_reducible assumption) | ((with_reducible apply same_seqT); with_reducible assumption) | ((with_reducible apply kp_seqT); with_reducible assumption) | ((with_reducible apply Dw.same); with_reducible assumption))); done))   | ((with_reducible apply R.ne2); focus ((repeat' (first | with_reducible assumption | with_reducible apply hU | ((with_reducible apply SqT.of); with_reducible assumption) | ((with_reducible apply same_seqT); with_reducible assumption) | ((with_reducible apply kp_seqT); with_reducible assumption) | ((with_reducible apply Dw.same); with_reducible assumption))); done))   | ((with_reducible apply R.eq4); focus ((repeat' (first | with_reducible assumption | with_reducible apply hU | ((with_reducible apply SqT.of); with_reducible assumption) | ((with_reducible apply same_seqT); with_reducible assumption) | ((with_reducible apply kp_seqT); with_reducible assumption) | ((with_reducible apply Dw.same); with_reducible assumption))); done))   | ((with_reducible apply R.eq3); focus ((repeat' (first | with_reducible assumption | with_reducible apply hU | ((with_reducible apply SqT.of); with_reducible assumption) | ((with_reducible apply same_seqT); with_reducible assumption) | ((with_reducible apply kp_seqT); with_reducible assumption) | ((with_reducible apply Dw.same); with_reducible assumption))); done))   | ((with_reducible apply R.eq2); focus ((repeat' (first | with_reducible assumption | with_reducible apply hU | ((with_reducible apply SqT.of); with_reducible assumption) | ((with_reducible apply same_seqT); with_reducible assumption) | ((with_reducible apply kp_seqT); with_reducible assumption) | ((with_reducible apply Dw.same); with_reducible assumption))); done))   | with_reducible apply uLawNext   | with_reducible apply uLawWide   | ((with_reducible apply R.nw); intro HN tn sn ht)   | with_reducible apply iteT   | with_reducible apply iteF   | with_reducible apply R.notT   | with_reducible apply R.notF   | ((with_reducible apply SqT.of); with_reducible assumption)   | ((with_reducible apply SqL.of); with_reducible assumption)   | ((with_reducible apply same_seqT); with_reducible assumption)   | ((with_reducible apply sameB); with_reducible assumption)   | ((with_reducible apply same_at); with_reducible assumption)   | ((with_reducible apply kp_seqT); with_reducible assumption)   | ((with_reducible apply Same.seq); with_reducible assumption)   | ((with_reducible apply Kp.seqL); with_reducible assumption)   | ((with_reducible apply fresh_ne); with_reducible assumption)   | ((with_reducible apply Dw.same); with_reducible assumption)   | ((with_reducible apply R.isEq); exact eq_true (by first | decide | omega))   | ((with_reducible apply R.isLt); first | decide | omega)   | ((with_reducible apply R.isLtI); first | decide | omega)   | ((with_reducible apply R.isLeI); first | decide | omega)   | ((with_reducible apply R.cdiv); exact rfl)   | ((with_reducible apply R.cpow); exact rfl)   | with_reducible apply R.cdivX   | ((with_reducible apply R.isNe); omega)   | with_reducible apply hU   | ((with_reducible apply wayNF); first | exact rfl | exact ⟨rfl, rfl⟩ | exact ⟨rfl, rfl, rfl⟩ | exact ⟨rfl, rfl, rfl, rfl⟩)   | with_reducible apply R.forE   | with_reducible apply R.rng1   | with_reducible apply R.rng2   | with_reducible apply R.rg1   | with_reducible apply R.rg2   | with_reducible apply R.lcE   | with_reducible apply R.itup   | with_reducible apply R.ilst   ))
        have hppN : HN pp = some (.lst (pl.map V.int)) := by (repeat' (first   | with_reducible apply R.var   | ((with_reducible apply R.isEq); exact rfl)   | with_reducible apply R.op   | with_reducible apply R.i2   | with_reducible apply R.i0   | with_reducible apply R.con   | with_reducible apply R.cons   | with_reducible apply R.nil   | with_reducible apply R.gcons   | with_reducible apply R.gname   | ((with_reducible apply R.ixT); (focus ((repeat' (first | with_reducible assumption | with_reducible apply hU | ((with_reducible apply SqT.of); with_reducible assumption) | ((with_reducible apply same_seqT); with_reducible assumption) | ((with_reducible apply kp_seqT); with_reducible assumption) | ((with_reducible apply Dw.same); with_reducible assumption))); done)); exact rfl)   | ((with_reducible apply R.ixL); (focus ((repeat' (first | with_reducible assumption | ((with_reducible apply SqL.of); with_reducible assumption) | ((with_reducible apply Same.seq); with_reducible assumption) | ((with_reducible apply Kp.seqL); with_reducible assumption) | ((with_reducible apply fresh_ne); with_reducible assumption) | ((with_reducible apply Dw.same); with_reducible assumption))); done)); exact rfl)   | with_reducible assumption   | with_reducible apply Bd.mulW   | with_reducible apply Bd.mul   | with_reducible apply Bd.add   | with_reducible apply Bd.sub   | ((with_reducible apply Bd.l8); exact eq_true (by decide))   | ((with_reducible apply Bd.lit); exact eq_true (by decide))   | with_reducible apply Bd.neg   | with_reducible apply Bd.div   | with_reducible apply Bd.abs   | with_reducible apply Bd.mod   | with_reducible apply Bd.fdiv   | ((with_reducible apply Bd.om); omega)   | ((with_reducible apply R.isLe); first | decide | omega)   | with_reducible apply R.un   | with_reducible apply R.u1   | with_reducible apply R.tup   | with_reducible apply R.lst   | with_reducible apply R.call   | with_reducible apply R.callB   | with_reducible apply R.gtup   | with_reducible apply R.gnil   | with_reducible apply R.seq   | with_reducible apply R.asg   | with_reducible apply R.ret   | with_reducible apply R.brk   | with_reducible apply R.cont   | with_reducible apply R.next   | with_reducible apply R.drop   | with_reducible apply R.par   | with_reducible apply R.par2   | with_reducible apply R.ifs   | with_reducible apply R.tif   | with_reducible apply R.test   | with_reducible apply R.tb'   | with_reducible apply R.isbl   | with_reducible apply R.cmp   | with_reducible apply R.t2i   | with_reducible apply R.intp   | with_reducible apply R.and   | with_reducible apply R.or   | with_reducible apply R.not   | with_reducible apply R.andV   | with_reducible apply R.orV   | with_reducible apply R.notV   | with_reducible apply R.chain   | with_reducible apply R.tupL   | with_reducible apply R.lstL   | with_reducible apply R.cat   | with_reducible apply R.absI   | with_reducible apply R.intI   | with_reducible apply R.intB   | with_reducible apply R.eqS   | with_reducible apply R.eqBl   | with_reducible apply R.neBl   | with_reducible apply R.sl   | with_reducible apply R.noPart   | with_reducible apply R.part   | with_reducible apply R.isInt   | with_reducible apply R.slL   | with_reducible apply R.isiT   | with_reducible apply R.isiLst   | with_reducible apply R.nwT   | with_reducible apply R.nwL   | ((with_reducible apply R.mt); intro HN tn sn nn ht)   | ((with_reducible apply R.ml); intro HN tn sn nn ht)   | ((with_reducible apply R.isiTupS); focus ((repeat' (first | with_reducible assumption | with_reducible apply hU | ((with_reducible apply SqT.of); with_reducible assumption) | ((with_reducible apply same_seqT); with_reducible assumption) | ((with_reducible apply kp_seqT); with_reducible assumption) | ((with_reducible apply Dw.same); with_reducible assumption))); done))   | ((with_reducible apply R.ne4); focus ((repeat' (first | with_reducible assumption | with_reducible apply hU | ((with_reducible apply SqT.of); with_reducible assumption) | ((with_reducible apply same_seqT); with_reducible assumption) | ((with_reducible apply kp_seqT); with_reducible assumption) | ((with_reducible apply Dw.same); with_reducible assumption))); done))   | ((with_reducible apply R.ne3); focus ((repeat' (first | with_reducible assumption | with_reducible apply hU | ((with_reducible apply SqT.of); with_reducible assumption) | ((with_reducible apply same_seqT); with_reducible assumption) | ((with_reducible apply kp_seqT); with_reducible assumption) | ((with_reducible apply Dw.same); with_reducible assumption))); done))   | ((with_reducible apply R.ne2); focus ((repeat' (first | with_reducible assumption | with_reducible apply hU | ((with_reducible apply SqT.of); with_reducible assumption) | ((with_reducible apply same_seqT); with_reducible assumption) | ((with_reducible apply kp_seqT); with_reducible assumption) | ((with_reducible apply Dw.same); with_reducible assumption))); done))   | ((with_reducible apply R.eq4); focus ((repeat' (first | with_reducible assumption | with_reducible apply hU | ((with_reducible apply SqT.of); with_reducible assumption) | ((with_reducible apply same_seqT); with_reducible assumption) | ((with_reducible apply kp_seqT); with_reducible assumption) | ((with_reducible apply Dw.same); with_reducible assumption))); done))   | ((with_reducible apply R.eq3); focus ((repeat' (first | with_reducible assumption | with_reducible apply hU | ((with_reducible apply SqT.of); with_reducible assumption) | ((with_reducible apply same_seqT); with_reducible assumption) | ((with_reducible apply kp_seqT); with_reducible assumption) | ((with_reducible apply Dw.same); with_reducible assumption))); done))   | ((with_reducible apply R.eq2); focus ((repeat' (first | with_reducible assumption | with_reducible apply hU | ((with_reducible apply SqT.of); with_reducible assumption) | ((with_reducible apply same_seqT); with_reducible assumption) | ((with_reducible apply kp_seqT); with_reducible assumption) | ((with_reducible apply Dw.same); with_reducible assumption))); done))   | with_reducible apply uLawNext   | with_reducible apply uLawWide   | ((with_reducible apply R.nw); intro HN tn sn ht)   | with_reducible apply iteT   | with_reducible apply iteF   | with_reducible apply R.notT   | with_reducible apply R.notF   | ((with_reducible apply SqT.of); with_reducible assumption)   | ((with_reducible apply SqL.of); with_reducible assumption)   | ((with_reducible apply same_seqT); with_reducible assumption)   | ((with_reducible apply sameB); with_reducible assumption)   | ((with_reducible apply same_at); with_reducible assumption)   | ((with_reducible apply kp_seqT); with_reducible assumption)   | ((with_reducible apply Same.seq); with_reducible assumption)   | ((with_reducible apply Kp.seqL); with_reducible assumption)   | ((with_reducible apply fresh_ne); with_reducible assumption)   | ((with_reducible apply Dw.same); with_reducible assumption)   | ((with_reducible apply R.isEq); exact eq_true (by first | decide | omega))   | ((with_reducible apply R.isLt); first | decide | omega)   | ((with_reducible apply R.isLtI); first | decide | omega)   | ((with_reducible apply R.isLeI); first | decide | omega)   | ((with_reducible apply R.cdiv); exact rfl)   | ((with_reducible apply R.cpow); exact rfl)   | with_reducible apply R.cdivX   | ((with_reducible apply R.isNe); omega)   | with_reducible apply hU   | ((with_reducible apply wayNF); first | exact rfl | exact ⟨rfl, rfl⟩ | exact ⟨rfl, rfl, rfl⟩ | exact ⟨rfl, rfl, rfl, rfl⟩)   | with_reducible apply R.forE   | with_reducible apply R.rng1   | with_reducible apply R.rng2   | with_reducible apply R.rg1   | with_reducible apply R.rg2   | with_reducible apply R.lcE   | with_reducible apply R.itup   | with_reducible apply R.ilst   ))
        have htN : HN t = some (.tup [.ref t1, .ref t2]) := by (repeat' (first   | with_reducible apply R.var   | ((with_reducible apply R.isEq); exact rfl)   | with_reducible apply R.op   | with_reducible apply R.i2   | with_reducible apply R.i0   | with_reducible apply R.con   | with_reducible apply R.cons   | with_reducible apply R.nil   | with_reducible apply R.gcons   | with_reducible apply R.gname   | ((with_reducible apply R.ixT); (focus ((repeat' (first | with_reducible assumption | with_reducible apply hU | ((with_reducible apply SqT.of); with_reducible assumption) | ((with_reducible apply same_seqT); with_reducible assumption) | ((with_reducible apply kp_seqT); with_reducible assumption) | ((with_reducible apply Dw.same); with_reducible assumption))); done)); exact rfl)   | ((with_reducible apply R.ixL); (focus ((repeat' (first | with_reducible assumption | ((with_reducible apply SqL.of); with_reducible assumption) | ((with_reducible apply Same.seq); with_reducible assumption) | ((with_reducible apply Kp.seqL); with_reducible assumption) | ((with_reducible apply fresh_ne); with_reducible assumption) | ((with_reducible apply Dw.same); with_reducible assumption))); done)); exact rfl)   | with_reducible assumption   | with_reducible apply Bd.mulW   | with_reducible apply Bd.mul   | with_reducible apply Bd.add   | with_reducible apply Bd.sub   | ((with_reducible apply Bd.l8); exact eq_true (by decide))   | ((with_reducible apply Bd.lit); exact eq_true (by decide))   | with_reducible apply Bd.neg   | with_reducible apply Bd.div   | with_reducible apply Bd.abs   | with_reducible apply Bd.mod   | with_reducible apply Bd.fdiv   | ((with_reducible apply Bd.om); omega)   | ((with_reducible apply R.isLe); first | decide | omega)   | with_reducible apply R.un   | with_reducible apply R.u1   | with_reducible apply R.tup   | with_reducible apply R.lst   | with_reducible apply R.call   | with_reducible apply R.callB   | with_reducible apply R.gtup   | with_reducible apply R.gnil   | with_reducible apply R.seq   | with_reducible apply R.asg   | with_reducible apply R.ret   | with_reducible apply R.brk   | with_reducible apply R.cont   | with_reducible apply R.next   | with_reducible apply R.drop   | with_reducible apply R.par   | with_reducible apply R.par2   | with_reducible apply R.ifs   | with_reducible apply R.tif   | with_reducible apply R.test   | with_reducible apply R.tb'   | with_reducible apply R.isbl   | with_reducible apply R.cmp   | with_reducible apply R.t2i   | with_reducible apply R.intp   | with_reducible apply R.and   | with_reducible apply R.or   | with_reducible apply R.not   | with_reducible apply R.andV   | with_reducible apply R.orV   | with_reducible apply R.notV   | with_reducible apply R.chain   | with_reducible apply R.tupL   | with_reducible apply R.lstL   | with_reducible apply R.cat   | with_reducible apply R.absI   | with_reducible apply R.intI   | with_reducible apply R.intB   | with_reducible apply R.eqS   | with_reducible apply R.eqBl   | with_reducible apply R.neBl   | with_reducible apply R.sl   | with_reducible apply R.noPart   | with_reducible apply R.part   | with_reducible apply R.isInt   | with_reducible apply R.slL   | with_reducible apply R.isiT   | with_reducible apply R.isiLst   | with_reducible apply R.nwT   | with_reducible apply R.nwL   | ((with_reducible apply R.mt); intro HN tn sn nn ht)   | ((with_reducible apply R.ml); intro HN tn sn nn ht)   | ((with_reducible apply R.isiTupS); focus ((repeat' (first | with_reducible assumption | with_reducible apply hU | ((with_reducible apply SqT.of); with_reducible assumption) | ((with_reducible apply same_seqT); with_reducible assumption) | ((with_reducible apply kp_seqT); with_reducible assumption) | ((with_reducible apply Dw.same); with_reducible assumption))); done))   | ((with_reducible apply R.ne4); focus ((repeat' (first | with_reducible assumption | with_reducible apply hU | ((with_reducible apply SqT.of); with_reducible assumption) | ((with_reducible apply same_seqT); with_reducible assumption) | ((with_reducible apply kp_seqT); with_reducible assumption) | ((with_reducible apply Dw.same); with_reducible assumption))); done))   | ((with_reducible apply R.ne3); focus ((repeat' (first | with_reducible assumption | with_reducible apply hU | ((with_reducible apply SqT.of); with_reducible assumption) | ((with_reducible apply same_seqT); with_reducible assumption) | ((with_reducible apply kp_seqT); with_reducible assumption) | ((with_reducible apply Dw.same); with_reducible assumption))); done))   | ((with_reducible apply R.ne2); focus ((repeat' (first | with_reducible assumption | with_reducible apply hU | ((with_reducible apply SqT.of); with_reducible assumption) | ((with_reducible apply same_seqT); with_reducible assumption) | ((with_reducible apply kp_seqT); with_reducible assumption) | ((with_reducible apply Dw.same); with_reducible assumption))); done))   | ((with_reducible apply R.eq4); focus ((repeat' (first | with_reducible assumption | with_reducible apply hU | ((with_reducible apply SqT.of); with_reducible assumption) | ((with_reducible apply same_seqT); with_reducible assumption) | ((with_reducible apply kp_seqT); with_reducible assumption) | ((with_reducible apply Dw.same); with_reducible assumption))); done))   | ((with_reducible apply R.eq3); focus ((repeat' (first | with_reducible assumption | with_reducible apply hU | ((with_reducible apply SqT.of); with_reducible assumption) | ((with_reducible apply same_seqT); with_reducible assumption) | ((with_reducible apply kp_seqT); with_reducible assumption) | ((with_reducible apply Dw.same); with_reducible assumption))); done))   | ((with_reducible apply R.eq2); focus ((repeat' (first | with_reducible assumption | with_reducible apply hU | ((with_reducible apply SqT.of); with_reducible assumption) | ((with_reducible apply same_seqT); with_reducible assumption) | ((with_reducible apply kp_seqT); with_reducible assumption) | ((with_reducible apply Dw.same); with_reducible assumption))); done))   | with_reducible apply uLawNext   | with_reducible apply uLawWide   | ((with_reducible apply R.nw); intro HN tn sn ht)   | with_reducible apply iteT   | with_reducible apply iteF   | with_reducible apply R.notT   | with_reducible apply R.notF   | ((with_reducible apply SqT.of); with_reducible assumption)   | ((with_reducible apply SqL.of); with_reducible assumption)   | ((with_reducible apply same_seqT); with_reducible assumption)   | ((with_reducible apply sameB); with_reducible assumption)   | ((with_reducible apply same_at); with_reducible assumption)   | ((with_reducible apply kp_seqT); with_reducible assumption)   | ((with_reducible apply Same.seq); with_reducible assumption)   | ((with_reducible apply Kp.seqL); with_reducible assumption)   | ((with_reducible apply fresh_ne); with_reducible assumption)   | ((with_reducible apply Dw.same); with_reducible assumption)   | ((with_reducible apply R.isEq); exact eq_true (by first | decide | omega))   | ((with_reducible apply R.isLt); first | decide | omega)   | ((with_reducible apply R.isLtI); first | decide | omega)   | ((with_reducible apply R.isLeI); first | decide | omega)   | ((with_reducible apply R.cdiv); exact rfl)   | ((with_reducible apply R.cpow); exact rfl)   | with_reducible apply R.cdivX   | ((with_reducible apply R.isNe); omega)   | with_reducible apply hU   | ((with_reducible apply wayNF); first | exact rfl | exact ⟨rfl, rfl⟩ | exact ⟨rfl, rfl, rfl⟩ | exact ⟨rfl, rfl, rfl, rfl⟩)   | with_reducible apply R.forE   | with_reducible apply R.rng1   | with_reducible apply R.rng2   | with_reducible apply R.rg1   | with_reducible apply R.rg2   | with_reducible apply R.lcE   | with_reducible apply R.itup   | with_reducible apply R.ilst   ))
        have ht1N : HN t1 = some (.tup ((pl.take j).map V.int)) := by (repeat' (first   | with_reducible apply R.var   | ((with_reducible apply R.isEq); exact rfl)   | with_reducible apply R.op   | with_reducible apply R.i2   | with_reducible apply R.i0   | with_reducible apply R.con   | with_reducible apply R.cons   | with_reducible apply R.nil   | with_reducible apply R.gcons   | with_reducible apply R.gname   | ((with_reducible apply R.ixT); (focus ((repeat' (first | with_reducible assumption | with_reducible apply hU | ((with_reducible apply SqT.of); with_reducible assumption) | ((with_reducible apply same_seqT); with_reducible assumption) | ((with_reducible apply kp_seqT); with_reducible assumption) | ((with_reducible apply Dw.same); with_reducible assumption))); done)); exact rfl)   | ((with_reducible apply R.ixL); (focus ((repeat' (first | with_reducible assumption | ((with_reducible apply SqL.of); with_reducible assumption) | ((with_reducible apply Same.seq); with_reducible assumption) | ((with_reducible apply Kp.seqL); with_reducible assumption) | ((with_reducible apply fresh_ne); with_reducible assumption) | ((with_reducible apply Dw.same); with_reducible assumption))); done)); exact rfl)   | with_reducible assumption   | with_reducible apply Bd.mulW   | with_reducible apply Bd.mul   | with_reducible apply Bd.add   | with_reducible apply Bd.sub   | ((with_reducible apply Bd.l8); exact eq_true (by decide))   | ((with_reducible apply Bd.lit); exact eq_true (by decide))   | with_reducible apply Bd.neg   | with_reducible apply Bd.div   | with_reducible apply Bd.abs   | with_reducible apply Bd.mod   | with_reducible apply Bd.fdiv   | ((with_reducible apply Bd.om); omega)   | ((with_reducible apply R.isLe); first | decide | omega)   | with_reducible apply R.un   | with_reducible apply R.u1   | with_reducible apply R.tup   | with_reducible apply R.lst   | with_reducible apply R.call   | with_reducible apply R.callB   | with_reducible apply R.gtup   | with_reducible apply R.gnil   | with_reducible apply R.seq   | with_reducible apply R.asg   | with_reducible apply R.ret   | with_reducible apply R.brk   | with_reducible apply R.cont   | with_reducible apply R.next   | with_reducible apply R.drop   | with_reducible apply R.par   | with_reducible apply R.par2   | with_reducible apply R.ifs   | with_reducible apply R.tif   | with_reducible apply R.test   | with_reducible apply R.tb'   | with_reducible apply R.isbl   | with_reducible apply R.cmp   | with_reducible apply R.t2i   | with_reducible apply R.intp   | with_reducible apply R.and   | with_reducible apply R.or   | with_reducible apply R.not   | with_reducible apply R.andV   | with_reducible apply R.orV   | with_reducible apply R.notV   | with_reducible apply R.chain   | with_reducible apply R.tupL   | with_reducible apply R.lstL   | with_reducible apply R.cat   | with_reducible apply R.absI   | with_reducible apply R.intI   | with_reducible apply R.intB   | with_reducible apply R.eqS   | with_reducible apply R.eqBl   | with_reducible apply R.neBl   | with_reducible apply R.sl   | with_reducible apply R.noPart   | with_reducible apply R.part   | with_reducible apply R.isInt   | with_reducible apply R.slL   | with_reducible apply R.isiT   | with_reducible apply R.isiLst   | with_reducible apply R.nwT   | with_reducible apply R.nwL   | ((with_reducible apply R.mt); intro HN tn sn nn ht)   | ((with_reducible apply R.ml); intro HN tn sn nn ht)   | ((with_reducible apply R.isiTupS); focus ((repeat' (first | with_reducible assumption | with_reducible apply hU | ((with_reducible apply SqT.of); with_reducible assumption) | ((with_reducible apply same_seqT); with_reducible assumption) | ((with_reducible apply kp_seqT); with_reducible assumption) | ((with_reducible apply Dw.same); with_reducible assumption))); done))   | ((with_reducible apply R.ne4); focus ((repeat' (first | with_reducible assumption | with_reducible apply hU | ((with_reducible apply SqT.of); with_reducible assumption) | ((with_reducible apply same_seqT); with_reducible assumption) | ((with_reducible apply kp_seqT); with_reducible assumption) | ((with_reducible apply Dw.same); with_reducible assumption))); done))   | ((with_reducible apply R.ne3); focus ((repeat' (first | with_reducible assumption | with_reducible apply hU | ((with_reducible apply SqT.of); with_reducible assumption) | ((with_reducible apply same_seqT); with_reducible assumption) | ((with_reducible apply kp_seqT); with_reducible assumption) | ((with_reducible apply Dw.same); with_reducible assumption))); done))   | ((with_reducible apply R.ne2); focus ((repeat' (first | with_reducible assumption | with_reducible apply hU | ((with_reducible apply SqT.of); with_reducible assumption) | ((with_reducible apply same_seqT); with_reducible assumption) | ((with_reducible apply kp_seqT); with_reducible assumption) | ((with_reducible apply Dw.same); with_reducible assumption))); done))   | ((with_reducible apply R.eq4); focus ((repeat' (first | with_reducible assumption | with_reducible apply hU | ((with_reducible apply SqT.of); with_reducible assumption) | ((with_reducible apply same_seqT); with_reducible assumption) | ((with_reducible apply kp_seqT); with_reducible assumption) | ((with_reducible apply Dw.same); with_reducible assumption))); done))   | ((with_reducible apply R.eq3); focus ((repeat' (first | with_reducible assumption | with_reducible apply hU | ((with_reducible apply SqT.of); with_reducible assumption) | ((with_reducible apply same_seqT); with_reducible assumption) | ((with_reducible apply kp_seqT); with_reducible assumption) | ((with_reducible apply Dw.same); with_reducible assumption))); done))   | ((with_reducible apply R.eq2); focus ((repeat' (first | with_reducible assumption | with_reducible apply hU | ((with_reducible apply SqT.of); with_reducible assumption) | ((with_reducible apply same_seqT); with_reducible assumption) | ((with_reducible apply kp_seqT); with_reducible assumption) | ((with_reducible apply Dw.same); with_reducible assumption))); done))   | with_reducible apply uLawNext   | with_reducible apply uLawWide   | ((with_reducible apply R.nw); intro HN tn sn ht)   | with_reducible apply iteT   | with_reducible apply iteF   | with_reducible apply R.notT   | with_reducible apply R.notF   | ((with_reducible apply SqT.of); with_reducible assumption)   | ((with_reducible apply SqL.of); with_reducible assumption)   | ((with_reducible apply same_seqT); with_reducible assumption)   | ((with_reducible apply sameB); with_reducible assumption)   | ((with_reducible apply same_at); with_reducible assumption)   | ((with_reducible apply kp_seqT); with_reducible assumption)   | ((with_reducible apply Same.seq); with_reducible assumption)   | ((with_reducible apply Kp.seqL); with_reducible assumption)   | ((with_reducible apply fresh_ne); with_reducible assumption)   | ((with_reducible apply Dw.same); with_reducible assumption)   | ((with_reducible apply R.isEq); exact eq_true (by first | decide | omega))   | ((with_reducible apply R.isLt); first | decide | omega)   | ((with_reducible apply R.isLtI); first | decide | omega)   | ((with_reducible apply R.isLeI); first | decide | omega)   | ((with_reducible apply R.cdiv); exact rfl)   | ((with_reducible apply R.cpow); exact rfl)   | with_reducible apply R.cdivX   | ((with_reducible apply R.isNe); omega)   | with_reducible apply hU   | ((with_reducible apply wayNF); first | exact rfl | exact ⟨rfl, rfl⟩ | exact ⟨rfl, rfl, rfl⟩ | exact ⟨rfl, rfl, rfl, rfl⟩)   | with_reducible apply R.forE   | with_reducible apply R.rng1   | with_reducible apply R.rng2   | with_reducible apply R.rg1   | with_reducible apply R.rg2   | with_reducible apply R.lcE   | with_reducible apply R.itup   | with_reducible apply R.ilst   ))
        have ht2N : HN t2 = some (.tup ((pl.drop j).map V.int)) := by (repeat' (first   | with_reducible apply R.var   | ((with_reducible apply R.isEq); exact rfl)   | with_reducible apply R.op   | with_reducible apply R.i2   | with_reducible apply R.i0   | with_reducible apply R.con   | with_reducible apply R.cons   | with_reducible apply R.nil   | with_reducible apply R.gcons   | with_reducible apply R.gname   | ((with_reducible apply R.ixT); (focus ((repeat' (first | with_reducible assumption | with_reducible apply hU | ((with_reducible apply SqT.of); with_reducible assumption) | ((with_reducible apply same_seqT); with_reducible assumption) | ((with_reducible apply kp_seqT); with_reducible assumption) | ((with_reducible apply Dw.same); with_reducible assumption))); done)); exact rfl)   | ((with_reducible apply R.ixL); (focus ((repeat' (first | with_reducible assumption | ((with_reducible apply SqL.of); with_reducible assumption) | ((with_reducible apply Same.seq); with_reducible assumption) | ((with_reducible apply Kp.seqL); with_reducible assumption) | ((with_reducible apply fresh_ne); with_reducible assumption) | ((with_reducible apply Dw.same); with_reducible assumption))); done)); exact rfl)   | with_reducible assumption   | with_reducible apply Bd.mulW   | with_reducible apply Bd.mul   | with_reducible apply Bd.add   | with_reducible apply Bd.sub   | ((with_reducible apply Bd.l8); exact eq_true (by decide))   | ((with_reducible apply Bd.lit); exact eq_true (by decide))   | with_reducible apply Bd.neg   | with_reducible apply Bd.div   | with_reducible apply Bd.abs   | with_reducible apply Bd.mod   | with_reducible apply Bd.fdiv   | ((with_reducible apply Bd.om); omega)   | ((with_reducible apply R.isLe); first | decide | omega)   | with_reducible apply R.un   | with_reducible apply R.u1   | with_reducible apply R.tup   | with_reducible apply R.lst   | with_reducible apply R.call   | with_reducible apply R.callB   | with_reducible apply R.gtup   | with_reducible apply R.gnil   | with_reducible apply R.seq   | with_reducible apply R.asg   | with_reducible apply R.ret   | with_reducible apply R.brk   | with_reducible apply R.cont   | with_reducible apply R.next   | with_reducible apply R.drop   | with_reducible apply R.par   | with_reducible apply R.par2   | with_reducible apply R.ifs   | with_reducible apply R.tif   | with_reducible apply R.test   | with_reducible apply R.tb'   | with_reducible apply R.isbl   | with_reducible apply R.cmp   | with_reducible apply R.t2i   | with_reducible apply R.intp   | with_reducible apply R.and   | with_reducible apply R.or   | with_reducible apply R.not   | with_reducible apply R.andV   | with_reducible apply R.orV   | with_reducible apply R.notV   | with_reducible apply R.chain   | with_reducible apply R.tupL   | with_reducible apply R.lstL   | with_reducible apply R.cat   | with_reducible apply R.absI   | with_reducible apply R.intI   | with_reducible apply R.intB   | with_reducible apply R.eqS   | with_reducible apply R.eqBl   | with_reducible apply R.neBl   | with_reducible apply R.sl   | with_reducible apply R.noPart   | with_reducible apply R.part   | with_reducible apply R.isInt   | with_reducible apply R.slL   | with_reducible apply R.isiT   | with_reducible apply R.isiLst   | with_reducible apply R.nwT   | with_reducible apply R.nwL   | ((with_reducible apply R.mt); intro HN tn sn nn ht)   | ((with_reducible apply R.ml); intro HN tn sn nn ht)   | ((with_reducible apply R.isiTupS); focus ((repeat' (first | with_reducible assumption | with_reducible apply hU | ((with_reducible apply SqT.of); with_reducible assumption) | ((with_reducible apply same_seqT); with_reducible assumption) | ((with_reducible apply kp_seqT); with_reducible assumption) | ((with_reducible apply Dw.same); with_reducible assumption))); done))   | ((with_reducible apply R.ne4); focus ((repeat' (first | with_reducible assumption | with_reducible apply hU | ((with_reducible apply SqT.of); with_reducible assumption) | ((with_reducible apply same_seqT); with_reducible assumption) | ((with_reducible apply kp_seqT); with_reducible assumption) | ((with_reducible apply Dw.same); with_reducible assumption))); done))   | ((with_reducible apply R.ne3); focus ((repeat' (first | with_reducible assumption | with_reducible apply hU | ((with_reducible apply SqT.of); with_reducible assumption) | ((with_reducible apply same_seqT); with_reducible assumption) | ((with_reducible apply kp_seqT); with_reducible assumption) | ((with_reducible apply Dw.same); with_reducible assumption))); done))   | ((with_reducible apply R.ne2); focus ((repeat' (first | with_reducible assumption | with_reducible apply hU | ((with_reducible apply SqT.of); with_reducible assumption) | ((with_reducible apply same_seqT); with_reducible assumption) | ((with_reducible apply kp_seqT); with_reducible assumption) | ((with_reducible apply Dw.same); with_reducible assumption))); done))   | ((with_reducible apply R.eq4); focus ((repeat' (first | with_reducible assumption | with_reducible apply hU | ((with_reducible apply SqT.of); with_reducible assumption) | ((with_reducible apply same_seqT); with_reducible assumption) | ((with_reducible apply kp_seqT); with_reducible assumption) | ((with_reducible apply Dw.same); with_reducible assumption))); done))   | ((with_reducible apply R.eq3); focus ((repeat' (first | with_reducible assumption | with_reducible apply hU | ((with_reducible apply SqT.of); with_reducible assumption) | ((with_reducible apply same_seqT); with_reducible assumption) | ((with_reducible apply kp_seqT); with_reducible assumption) | ((with_reducible apply Dw.same); with_reducible assumption))); done))   | ((with_reducible apply R.eq2); focus ((repeat' (first | with_reducible assumption | with_reducible apply hU | ((with_reducible apply SqT.of); with_reducible assumption) | ((with_reducible apply same_seqT); with_reducible assumption) | ((with_reducible apply kp_seqT); with_reducible assumption) | ((with_reducible apply Dw.same); with_reducible assumption))); done))   | with_reducible apply uLawNext   | with_reducible apply uLawWide   | ((with_reducible apply R.nw); intro HN tn sn ht)   | with_reducible apply iteT   | with_reducible apply iteF   | with_reducible apply R.notT   | with_reducible apply R.notF   | ((with_reducible apply SqT.of); with_reducible assumption)   | ((with_reducible apply SqL.of); with_reducible assumption)   | ((with_reducible apply same_seqT); with_reducible assumption)   | ((with_reducible apply sameB); with_reducible assumption)   | ((with_reducible apply same_at); with_reducible assumption)   | ((with_reducible apply kp_seqT); with_reducible assumption)   | ((with_reducible apply Same.seq); with_reducible assumption)   | ((with_reducible apply Kp.seqL); with_reducible assumption)   | ((with_reducible apply fresh_ne); with_reducible assumption)   | ((with_reducible apply Dw.same); with_reducible assumption)   | ((with_reducible apply R.isEq); exact eq_true (by first | decide | omega))   | ((with_reducible apply R.isLt); first | decide | omega)   | ((with_reducible apply R.isLtI); first | decide | omega)   | ((with_reducible apply R.isLeI); first | decide | omega)   | ((with_reducible apply R.cdiv); exact rfl)   | ((with_reducible apply R.cpow); exact rfl)   | with_reducible apply R.cdivX   | ((with_reducible apply R.isNe); omega)   | with_reducible apply hU   | ((with_reducible apply wayNF); first | exact rfl | exact ⟨rfl, rfl⟩ | exact ⟨rfl, rfl, rfl⟩ | exact ⟨rfl, rfl, rfl, rfl⟩)   | with_reducible apply R.forE   | with_reducible apply R.rng1   | with_reducible apply R.rng2   | with_reducible apply R.rg1   | with_reducible apply R.rg2   | with_reducible apply R.lcE   | with_reducible apply R.itup   | with_reducible apply R.ilst   ))
        repeat' (first
          | with_reducible apply R.var
          | ((with_reducible apply R.isEq); exact rfl)
          | with_reducible apply R.op
          | with_reducible apply R.i2
          | with_reducible apply R.i0
          | with_reducible apply R.con
          | with_reducible apply R.cons
          | with_reducible apply R.nil
          | with_reducible apply R.gcons
          | with_reducible apply R.gname
          | ((with_reducible apply R.ixT); (focus ((repeat' (first | with_reducible assumption | with_reducible apply hU | ((with_reducible apply SqT.of); with_reducible assumption) | ((with_reducible apply same_seqT); with_reducible assumption) | ((with_reducible apply kp_seqT); with_reducible assumption) | ((with_reducible apply Dw.same); with_reducible assumption))); done)); exact rfl)
          | ((with_reducible apply R.ixL); (focus ((repeat' (first | with_reducible assumption | ((with_reducible apply SqL.of); with_reducible assumption) | ((with_reducible apply Same.seq); with_reducible assumption) | ((with_reducible apply Kp.seqL); with_reducible assumption) | ((with_reducible apply fresh_ne); with_reducible assumption) | ((with_reducible apply Dw.same); with_reducible assumption))); done)); exact rfl)
          | with_reducible assumption
          | with_reducible apply Bd.mulW
          | with_reducible apply Bd.mul
          | with_reducible apply Bd.add
          | with_reducible apply Bd.sub
          | ((with_reducible apply Bd.l8); exact eq_true (by decide))
          | ((with_reducible apply Bd.lit); exact eq_true (by decide))
          | with_reducible apply Bd.neg
          | with_reducible apply Bd.div
          | with_reducible apply Bd.abs
          | with_reducible apply Bd.mod
          | with_reducible apply Bd.fdiv
          | ((with_reducible apply Bd.om); omega)
          | ((with_reducible apply R.isLe); first | decide | omega)
          | with_reducible apply R.un
          | with_reducible apply R.u1
          | with_reducible apply R.tup
          | with_reducible apply R.lst
          | with_reducible apply R.call
          | with_reducible apply R.callB
          | with_reducible apply R.gtup
          | with_reducible apply R.gnil
          | with_reducible apply R.seq
          | with_reducible apply R.asg
          | with_reducible apply R.ret
          | with_reducible apply R.brk
          | with_reducible apply R.cont
          | with_reducible apply R.next
          | with_reducible apply R.drop
          | with_reducible apply R.par
          | with_reducible apply R.par2
          | with_reducible apply R.ifs
          | with_reducible apply R.tif
          | with_reducible apply R.test
          | with_reducible apply R.tb'
          | with_reducible apply R.isbl
          | with_reducible apply R.cmp
          | with_reducible apply R.t2i
          | with_reducible apply R.intp
          | with_reducible apply R.and
          | with_reducible apply R.or
          | with_reducible apply R.not
          | with_reducible apply R.andV
          | with_reducible apply R.orV
          | with_reducible apply R.notV
          | with_reducible apply R.chain
          | with_reducible apply R.tupL
          | with_reducible apply R.lstL
          | with_reducible apply R.cat
          | with_reducible apply R.absI
          | with_reducible apply R.intI
          | with_reducible apply R.intB
          | with_reducible apply R.eqS
          | with_reducible apply R.eqBl
          | with_reducible apply R.neBl
          | with_reducible apply R.sl
          | with_reducible apply R.noPart
          | with_reducible apply R.part
          | with_reducible apply R.isInt
          | with_reducible apply R.slL
          | with_reducible apply R.isiT
          | with_reducible apply R.isiLst
          | with_reducible apply R.nwT
          | with_reducible apply R.nwL
          | ((with_reducible apply R.mt); intro HN tn sn nn ht)
          | ((with_reducible apply R.ml); intro HN tn sn nn ht)
          | ((with_reducible apply R.isiTupS); focus ((repeat' (first | with_reducible assumption | with_reducible apply hU | ((with_reducible apply SqT.of); with_reducible assumption) | ((with_reducible apply same_seqT); with_reducible assumption) | ((with_reducible apply kp_seqT); with_reducible assumption) | ((with_reducible apply Dw.same); with_reducible assumption))); done))
          | ((with_reducible apply R.ne4); focus ((repeat' (first | with_reducible assumption | with_reducible apply hU | ((with_reducible apply SqT.of); with_reducible assumption) | ((with_reducible apply same_seqT); with_reducible assumption) | ((with_reducible apply kp_seqT); with_reducible assumption) | ((with_reducible apply Dw.same); with_reducible assumption))); done))
          | ((with_reducible apply R.ne3); focus ((repeat' (first | with_reducible assumption | with_reducible apply hU | ((with_reducible apply SqT.of); with_reducible assumption) | ((with_reducible apply same_seqT); with_reducible assumption) | ((with_reducible apply kp_seqT); with_reducible assumption) | ((with_reducible apply Dw.same); with_reducible assumption))); done))
          | ((with_reducible apply R.ne2); focus ((repeat' (first | with_reducible assumption | with_reducible apply hU | ((with_reducible apply SqT.of); with_reducible assumption) | ((with_reducible apply same_seqT); with_reducible assumption) | ((with_reducible apply kp_seqT); with_reducible assumption) | ((with_reducible apply Dw.same); with_reducible assumption))); done))
          | ((with_reducible apply R.eq4); focus ((repeat' (first | with_reducible assumption | with_reducible apply hU | ((with_reducible apply SqT.of); with_reducible assumption) | ((with_reducible apply same_seqT); with_reducible assumption) | ((with_reducible apply kp_seqT); with_reducible assumption) | ((with_reducible apply Dw.same); with_reducible assumption))); done))
          | ((with_reducible apply R.eq3); focus ((repeat' (first | with_reducible assumption | with_reducible apply hU | ((with_reducible apply SqT.of); with_reducible assumption) | ((with_reducible apply same_seqT); with_reducible assumption) | ((with_reducible apply kp_seqT); with_reducible assumption) | ((with_reducible apply Dw.same); with_reducible assumption))); done))
          | ((with_reducible apply R.eq2); focus ((repeat' (first | with_reducible assumption | with_reducible apply hU | ((with_reducible apply SqT.of); with_reducible assumption) | ((with_reducible apply same_seqT); with_reducible assumption) | ((with_reducible apply kp_seqT); with_reducible assumption) | ((with_reducible apply Dw.same); with_reducible assumption))); done))
          | with_reducible apply uLawNext
          | with_reducible apply uLawWide
          | ((with_reducible apply R.nw); intro HN tn sn ht)
          | with_reducible apply iteT
          | with_reducible apply iteF
          | with_reducible apply R.notT
          | with_reducible apply R.notF
          | ((with_reducible apply SqT.of); with_reducible assumption)
          | ((with_reducible apply SqL.of); with_reducible assumption)
          | ((with_reducible apply same_seqT); with_reducible assumption)
          | ((with_reducible apply sameB); with_reducible assumption)
          | ((with_reducible apply same_at); with_reducible assumption)
          | ((with_reducible apply kp_seqT); with_reducible assumption)
          | ((with_reducible apply Same.seq); with_reducible assumption)
          | ((with_reducible apply Kp.seqL); with_reducible assumption)
          | ((with_reducible apply fresh_ne); with_reducible assumption)
          | ((with_reducible apply Dw.same); with_reducible assumption)
          | ((with_reducible apply R.isEq); exact eq_true (by first | decide | omega))
          | ((with_reducible apply R.isLt); first | decide | omega)
          | ((with_reducible apply R.isLtI); first | decide | omega)
          | ((with_reducible apply R.isLeI); first | decide | omega)
          | ((with_reducible apply R.cdiv); exact rfl)
          | ((with_reducible apply R.cpow); exact rfl)
          | with_reducible apply R.cdivX
          | ((with_reducible apply R.isNe); omega)
          | with_reducible apply hU
          | ((with_reducible apply wayNF); first | exact rfl | exact ⟨rfl, rfl⟩ | exact ⟨rfl, rfl, rfl⟩ | exact ⟨rfl, rfl, rfl, rfl⟩)
          | with_reducible apply R.forE
          | with_reducible apply R.rng1
          | with_reducible apply R.rng2
          | with_reducible apply R.rg1
          | with_reducible apply R.rg2
          | with_reducible apply R.lcE
          | with_reducible apply R.itup
          | with_reducible apply R.ilst
          )
        intro r9 H8 r9a r9b dw8 k8
        repeat' (first
          | with_reducible apply R.var
          | ((with_reducible apply R.isEq); exact rfl)
          | with_reducible apply R.op
          | with_reducible apply R.i2
          | with_reducible apply R.i0
          | with_reducible apply R.con
          | with_reducible apply R.cons
          | with_reducible apply R.nil
          | with_reducible apply R.gcons
          | with_reducible apply R.gname
          | ((with_reducible apply R.ixT); (focus ((repeat' (first | with_reducible assumption | with_reducible apply hU | ((with_reducible apply SqT.of); with_reducible assumption) | ((with_reducible apply same_seqT); with_reducible assumption) | ((with_reducible apply kp_seqT); with_reducible assumption) | ((with_reducible apply Dw.same); with_reducible assumption))); done)); exact rfl)
          | ((with_reducible apply R.ixL); (focus ((repeat' (first | with_reducible assumption | ((with_reducible apply SqL.of); with_reducible assumption) | ((with_reducible apply Same.seq); with_reducible assumption) | ((with_reducible apply Kp.seqL); with_reducible assumption) | ((with_reducible apply fresh_ne); with_reducible assumption) | ((with_reducible apply Dw.same); with_reducible assumption))); done)); exact rfl)
          | with_reducible assumption
          | with_reducible apply Bd.mulW
          | with_reducible apply Bd.mul
          | with_reducible apply Bd.add
          | with_reducible apply Bd.sub
          | ((with_reducible apply Bd.l8); exact eq_true (by decide))
          | ((with_reducible apply Bd.lit); exact eq_true (by decide))
          | with_reducible apply Bd.neg
          | with_reducible apply Bd.div
          | with_reducible apply Bd.abs
          | with_reducible apply Bd.mod
          | with_reducible apply Bd.fdiv
          | ((with_reducible apply Bd.om); omega)
          | ((with_reducible apply R.isLe); first | decide | omega)
          | with_reducible apply R.un
          | with_reducible apply R.u1
          | with_reducible apply R.tup
          | with_reducible apply R.lst
          | with_reducible apply R.call
          | with_reducible apply R.callB
          | with_reducible apply R.gtup
          | with_reducible apply R.gnil
          | with_reducible apply R.seq
          | with_reducible apply R.asg
          | with_reducible apply R.ret
          | with_reducible apply R.brk
          | with_reducible apply R.cont
          | with_reducible apply R.next
          | with_reducible apply R.drop
          | with_reducible apply R.par
          | with_reducible apply R.par2
          | with_reducible apply R.ifs
          | with_reducible apply R.tif
          | with_reducible apply R.test
          | with_reducible apply R.tb'
          | with_reducible apply R.isbl
          | with_reducible apply R.cmp
          | with_reducible apply R.t2i
          | with_reducible apply R.intp
          | with_reducible apply R.and
          | with_reducible apply R.or
          | with_reducible apply R.not
          | with_reducible apply R.andV
          | with_reducible apply R.orV
          | with_reducible apply R.notV
          | with_reducible apply R.chain
          | with_reducible apply R.tupL
          | with_reducible apply R.lstL
          | with_reducible apply R.cat
          | with_reducible apply R.absI
          | with_reducible apply R.intI
          | with_reducible apply R.intB
          | with_reducible apply R.eqS
          | with_reducible apply R.eqBl
          | with_reducible apply R.neBl
          | with_reducible apply R.sl
          | with_reducible apply R.noPart
          | with_reducible apply R.part
          | with_reducible apply R.isInt
          | with_reducible apply R.slL
          | with_reducible apply R.isiT
          | with_reducible apply R.isiLst
          | with_reducible apply R.nwT
          | with_reducible apply R.nwL
          | ((with_reducible apply R.mt); intro HN tn sn nn ht)
          | ((with_reducible apply R.ml); intro HN tn sn nn ht)
          | ((with_reducible apply R.isiTupS); focus ((repeat' (first | with_reducible assumption | with_reducible apply hU | ((with_reducible apply SqT.of); with_reducible assumption) | ((with_reducible apply same_seqT); with_reducible assumption) | ((with_reducible apply kp_seqT); with_reducible assumption) | ((with_reducible apply Dw.same); with_reducible assumption))); done))
          | ((with_reducible apply R.ne4); focus ((repeat' (first | with_reducible assumption | with_reducible apply hU | ((with_reducible apply SqT.of); with_reducible assumption) | ((with_reducible apply same_seqT); with_reducible assumption) | ((with_reducible apply kp_seqT); with_reducible assumption) | ((with_reducible apply Dw.same); with_reducible assumption))); done))
          | ((with_reducible apply R.ne3); focus ((repeat' (first | with_reducible assumption | with_reducible apply hU | ((with_reducible apply SqT.of); with_reducible assumption) | ((with_reducible apply same_seqT); with_reducible assumption) | ((with_reducible apply kp_seqT); with_reducible assumption) | ((with_reducible apply Dw.same); with_reducible assumption))); done))
          | ((with_reducible apply R.ne2); focus ((repeat' (first | with_reducible assumption | with_reducible apply hU | ((with_reducible apply SqT.of); with_reducible assumption) | ((with_reducible apply same_seqT); with_reducible assumption) | ((with_reducible apply kp_seqT); with_reducible assumption) | ((with_reducible apply Dw.same); with_reducible assumption))); done))
          | ((with_reducible apply R.eq4); focus ((repeat' (first | with_reducible assumption | with_reducible apply hU | ((with_reducible apply SqT.of); with_reducible assumption) | ((with_reducible apply same_seqT); with_reducible assumption) | ((with_reducible apply kp_seqT); with_reducible assumption) | ((with_reducible apply Dw.same); with_reducible assumption))); done))
          | ((with_reducible apply R.eq3); focus ((repeat' (first | with_reducible assumption | with_reducible apply hU | ((with_reducible apply SqT.of); with_reducible assumption) | ((with_reducible apply same_seqT); with_reducible assumption) | ((with_reducible apply kp_seqT); with_reducible assumption) | ((with_reducible apply Dw.same); with_reducible assumption))); done))
          | ((with_reducible apply R.eq2); focus ((repeat' (first | with_reducible assumption | with_reducible apply hU | ((with_reducible apply SqT.of); with_reducible assumption) | ((with_reducible apply same_seqT); with_reducible assumption) | ((with_reducible apply kp_seqT); with_reducible assumption) | ((with_reducible apply Dw.same); with_reducible assumption))); done))
          | with_reducible apply uLawNext
          | with_reducible apply uLawWide
          | ((with_reducible apply R.nw); intro HN tn sn ht)
          | with_reducible apply iteT
          | with_reducible apply iteF
          | with_reducible apply R.notT
          | with_reducible apply R.notF
          | ((with_reducible apply SqT.of); with_reducible assumption)
          | ((with_reducible apply SqL.of); with_reducible assumption)
          | ((with_reducible apply same_seqT); with_reducible assumption)
          | ((with_reducible apply sameB); with_reducible assumption)
          | ((with_reducible apply same_at); with_reducible assumption)
          | ((with_reducible apply kp_seqT); with_reducible assumption)
          | ((with_reducible apply Same.seq); with_reducible assumption)
          | ((with_reducible apply Kp.seqL); with_reducible assumption)
          | ((with_reducible apply fresh_ne); with_reducible assumption)
          | ((with_reducible apply Dw.same); with_reducible assumption)
          | ((with_reducible apply R.isEq); exact eq_true (by first | decide | omega))
          | ((with_reducible apply R.isLt); first | decide | omega)
          | ((with_reducible apply R.isLtI); first | decide | omega)
          | ((with_reducible apply R.isLeI); first | decide | omega)
          | ((with_reducible apply R.cdiv); exact rfl)
          | ((with_reducible apply R.cpow); exact rfl)
          | with_reducible apply R.cdivX
          | ((with_reducible apply R.isNe); omega)
          | with_reducible apply hU
          | ((with_reducible apply wayNF); first | exact rfl | exact ⟨rfl, rfl⟩ | exact ⟨rfl, rfl, rfl⟩ | exact ⟨rfl, rfl, rfl, rfl⟩)
          | with_reducible apply R.forE
          | with_reducible apply R.rng1
          | with_reducible apply R.rng2
          | with_reducible apply R.rg1
          | with_reducible apply R.rg2
          | with_reducible apply R.lcE
          | with_reducible apply R.itup
          | with_reducible apply R.ilst
          )
        rw [cut_from, ← List.map_drop] at ht
        have hpp8 : HN pp = some (.lst (pl.map V.int)) := sn _ _ (k8 _ _ ppp hppN)
        refine ⟨_, 60, _, rfl, rfl, ht, by decide, by decide, ?_, fun p2 np2 => ?_⟩
        · rw [List.length_map, List.length_drop, hpll]
          exact Nat.le_trans (Nat.mul_le_mul_right _ (show i - j ≤ 3000 by omega)) (by decide)
        rw [show Int.toNat 60 = 60 from rfl, rep_map]
        refine ⟨_, _, _, _, rfl, rfl, same_upd np2 _ _ hpp8, upd_same, ?_, fun p3 np3 => ?_⟩
        · rw [List.length_map, List.length_map, rep_len, List.length_drop, hpll]
          exact Nat.le_trans (show i + 60 * (i - j) ≤ 200000 by omega) (by decide)
        rw [← List.map_append]
        repeat' (first
          | with_reducible apply R.var
          | ((with_reducible apply R.isEq); exact rfl)
          | with_reducible apply R.op
          | with_reducible apply R.i2
          | with_reducible apply R.i0
          | with_reducible apply R.con
          | with_reducible apply R.cons
          | with_reducible apply R.nil
          | with_reducible apply R.gcons
          | with_reducible apply R.gname
          | ((with_reducible apply R.ixT); (focus ((repeat' (first | with_reducible assumption | with_reducible apply hU | ((with_reducible apply SqT.of); with_reducible assumption) | ((with_reducible apply same_seqT); with_reducible assumption) | ((with_reducible apply kp_seqT); with_reducible assumption) | ((with_reducible apply Dw.same); with_reducible assumption))); done)); exact rfl)
          | ((with_reducible apply R.ixL); (focus ((repeat' (first | with_reducible assumption | ((with_reducible apply SqL.of); with_reducible assumption) | ((with_reducible apply Same.seq); with_reducible assumption) | ((with_reducible apply Kp.seqL); with_reducible assumption) | ((with_reducible apply fresh_ne); with_reducible assumption) | ((with_reducible apply Dw.same); with_reducible assumption))); done)); exact rfl)
          | with_reducible assumption
          | with_reducible apply Bd.mulW
          | with_reducible apply Bd.mul
          | with_reducible apply Bd.add
          | with_reducible apply Bd.sub
          | ((with_reducible apply Bd.l8); exact eq_true (by decide))
          | ((with_reducible apply Bd.lit); exact eq_true (by decide))
          | with_reducible apply Bd.neg
          | with_reducible apply Bd.div
          | with_reducible apply Bd.abs
          | with_reducible apply Bd.mod
          | with_reducible apply Bd.fdiv
          | ((with_reducible apply Bd.om); omega)
          | ((with_reducible apply R.isLe); first | decide | omega)
          | with_reducible apply R.un
          | with_reducible apply R.u1
          | with_reducible apply R.tup
          | with_reducible apply R.lst
          | with_reducible apply R.call
          | with_reducible apply R.callB
          | with_reducible apply R.gtup
          | with_reducible apply R.gnil
          | with_reducible apply R.seq
          | with_reducible apply R.asg
          | with_reducible apply R.ret
          | with_reducible apply R.brk
          | with_reducible apply R.cont
          | with_reducible apply R.next
          | with_reducible apply R.drop
          | with_reducible apply R.par
          | with_reducible apply R.par2
          | with_reducible apply R.ifs
          | with_reducible apply R.tif
          | with_reducible apply R.test
          | with_reducible apply R.tb'
          | with_reducible apply R.isbl
          | with_reducible apply R.cmp
          | with_reducible apply R.t2i
          | with_reducible apply R.intp
          | with_reducible apply R.and
          | with_reducible apply R.or
          | with_reducible apply R.not
          | with_reducible apply R.andV
          | with_reducible apply R.orV
          | with_reducible apply R.notV
          | with_reducible apply R.chain
          | with_reducible apply R.tupL
          | with_reducible apply R.lstL
          | with_reducible apply R.cat
          | with_reducible apply R.absI
          | with_reducible apply R.intI
          | with_reducible apply R.intB
          | with_reducible apply R.eqS
          | with_reducible apply R.eqBl
          | with_reducible apply R.neBl
          | with_reducible apply R.sl
          | with_reducible apply R.noPart
          | with_reducible apply R.part
          | with_reducible apply R.isInt
          | with_reducible apply R.slL
          | with_reducible apply R.isiT
          | with_reducible apply R.isiLst
          | with_reducible apply R.nwT
          | with_reducible apply R.nwL
          | ((with_reducible apply R.mt); intro HN tn sn nn ht)
          | ((with_reducible apply R.ml); intro HN tn sn nn ht)
          | ((with_reducible apply R.isiTupS); focus ((repeat' (first | with_reducible assumption | with_reducible apply hU | ((with_reducible apply SqT.of); with_reducible assumption) | ((with_reducible apply same_seqT); with_reducible assumption) | ((with_reducible apply kp_seqT); with_reducible assumption) | ((with_reducible apply Dw.same); with_reducible assumption))); done))
          | ((with_reducible apply R.ne4); focus ((repeat' (first | with_reducible assumption | with_reducible apply hU | ((with_reducible apply SqT.of); with_reducible assumption) | ((with_reducible apply same_seqT); with_reducible assumption) | ((with_reducible apply kp_seqT); with_reducible assumption) | ((with_reducible apply Dw.same); with_reducible assumption))); done))
          | ((with_reducible apply R.ne3); focus ((repeat' (first | with_reducible assumption | with_reducible apply hU | ((with_reducible apply SqT.of); with_reducible assumption) | ((with_reducible apply same_seqT); with_reducible assumption) | ((with_reducible apply kp_seqT); with_reducible assumption) | ((with_reducible apply Dw.same); with_reducible assumption))); done))
          | ((with_reducible apply R.ne2); focus ((repeat' (first | with_reducible assumption | with_reducible apply hU | ((with_reducible apply SqT.of); with_reducible assumption) | ((with_reducible apply same_seqT); with_reducible assumption) | ((with_reducible apply kp_seqT); with_reducible assumption) | ((with_reducible apply Dw.same); with_reducible assumption))); done))
          | ((with_reducible apply R.eq4); focus ((repeat' (first | with_reducible assumption | with_reducible apply hU | ((with_reducible apply SqT.of); with_reducible assumption) | ((with_reducible apply same_seqT); with_reducible assumption) | ((with_reducible apply kp_seqT); with_reducible assumption) | ((with_reducible apply Dw.same); with_reducible assumption))); done))
          | ((with_reducible apply R.eq3); focus ((repeat' (first | with_reducible assumption | with_reducible apply hU | ((with_reducible apply SqT.of); with_reducible assumption) | ((with_reducible apply same_seqT); with_reducible assumption) | ((with_reducible apply kp_seqT); with_reducible assumption) | ((with_reducible apply Dw.same); with_reducible assumption))); done))
          | ((with_reducible apply R.eq2); focus ((repeat' (first | with_reducible assumption | with_reducible apply hU | ((with_reducible apply SqT.of); with_reducible assumption) | ((with_reducible apply same_seqT); with_reducible assumption) | ((with_reducible apply kp_seqT); with_reducible assumption) | ((with_reducible apply Dw.same); with_reducible assumption))); done))
          | with_reducible apply uLawNext
          | with_reducible apply uLawWide
          | ((with_reducible apply R.nw); intro HN tn sn ht)
          | with_reducible apply iteT
          | with_reducible apply iteF
          | with_reducible apply R.notT
          | with_reducible apply R.notF
          | ((with_reducible apply SqT.of); with_reducible assumption)
          | ((with_reducible apply SqL.of); with_reducible assumption)
          | ((with_reducible apply same_seqT); with_reducible assumption)
          | ((with_reducible apply sameB); with_reducible assumption)
          | ((with_reducible apply same_at); with_reducible assumption)
          | ((with_reducible apply kp_seqT); with_reducible assumption)
          | ((with_reducible apply Same.seq); with_reducible assumption)
          | ((with_reducible apply Kp.seqL); with_reducible assumption)
          | ((with_reducible apply fresh_ne); with_reducible assumption)
          | ((with_reducible apply Dw.same); with_reducible assumption)
          | ((with_reducible apply R.isEq); exact eq_true (by first | decide | omega))
          | ((with_reducible apply R.isLt); first | decide | omega)
          | ((with_reducible apply R.isLtI); first | decide | omega)
          | ((with_reducible apply R.isLeI); first | decide | omega)
          | ((with_reducible apply R.cdiv); exact rfl)
          | ((with_reducible apply R.cpow); exact rfl)
          | with_reducible apply R.cdivX
          | ((with_reducible apply R.isNe); omega)
          | with_reducible apply hU
          | ((with_reducible apply wayNF); first | exact rfl | exact ⟨rfl, rfl⟩ | exact ⟨rfl, rfl, rfl⟩ | exact ⟨rfl, rfl, rfl, rfl⟩)
          | with_reducible apply R.forE
          | with_reducible apply R.rng1
          | with_reducible apply R.rng2
          | with_reducible apply R.rg1
          | with_reducible apply R.rg2
          | with_reducible apply R.lcE
          | with_reducible apply R.itup
          | with_reducible apply R.ilst
          )
        obtain ⟨k, rfl⟩ := Int.eq_ofNat_of_zero_le r9a
        have hk : k < pl.length + 60 * (pl.length - j) := by omega
        obtain ⟨v, hv⟩ : ∃ v, (pl ++ (List.replicate 60 (pl.drop j)).flatten)[k]? = some v := by
          refine ⟨_, List.getElem?_eq_getElem ?_⟩
          rw [List.length_append, rep_len, List.length_drop]
          exact hk
        obtain ⟨c1, c2⟩ := due_at (by omega) hv hk
        refine R.ixL (SqL.of upd_same) (v := .int v) (atI_nat (by rw [List.getElem?_map, hv]; rfl)) ?_
        repeat' (first
          | with_reducible apply R.var
          | ((with_reducible apply R.isEq); exact rfl)
          | with_reducible apply R.op
          | with_reducible apply R.i2
          | with_reducible apply R.i0
          | with_reducible apply R.con
          | with_reducible apply R.cons
          | with_reducible apply R.nil
          | with_reducible apply R.gcons
          | with_reducible apply R.gname
          | ((with_reducible apply R.ixT); (focus ((repeat' (first | with_reducible assumption | with_reducible apply hU | ((with_reducible apply SqT.of); with_reducible assumption) | ((with_reducible apply same_seqT); with_reducible assumption) | ((with_reducible apply kp_seqT); with_reducible assumption) | ((with_reducible apply Dw.same); with_reducible assumption))); done)); exact rfl)
          | ((with_reducible apply R.ixL); (focus ((repeat' (first | with_reducible assumption | ((with_reducible apply SqL.of); with_reducible assumption) | ((with_reducible apply Same.seq); with_reducible assumption) | ((with_reducible apply Kp.seqL); with_reducible assumption) | ((with_reducible apply fresh_ne); with_reducible assumption) | ((with_reducible apply Dw.same); with_reducible assumption))); done)); exact rfl)
          | with_reducible assumption
          | with_reducible apply Bd.mulW
          | with_reducible apply Bd.mul
          | with_reducible apply Bd.add
          | with_reducible apply Bd.sub
          | ((with_reducible apply Bd.l8); exact eq_true (by decide))
          | ((with_reducible apply Bd.lit); exact eq_true (by decide))
          | with_reducible apply Bd.neg
          | with_reducible apply Bd.div
          | with_reducible apply Bd.abs
          | with_reducible apply Bd.mod
          | with_reducible apply Bd.fdiv
          | ((with_reducible apply Bd.om); omega)
          | ((with_reducible apply R.isLe); first | decide | omega)
          | with_reducible apply R.un
          | with_reducible apply R.u1
          | with_reducible apply R.tup
          | with_reducible apply R.lst
          | with_reducible apply R.call
          | with_reducible apply R.callB
          | with_reducible apply R.gtup
          | with_reducible apply R.gnil
          | with_reducible apply R.seq
          | with_reducible apply R.asg
          | with_reducible apply R.ret
          | with_reducible apply R.brk
          | with_reducible apply R.cont
          | with_reducible apply R.next
          | with_reducible apply R.drop
          | with_reducible apply R.par
          | with_reducible apply R.par2
          | with_reducible apply R.ifs
          | with_reducible apply R.tif
          | with_reducible apply R.test
          | with_reducible apply R.tb'
          | with_reducible apply R.isbl
          | with_reducible apply R.cmp
          | with_reducible apply R.t2i
          | with_reducible apply R.intp
          | with_reducible apply R.and
          | with_reducible apply R.or
          | with_reducible apply R.not
          | with_reducible apply R.andV
          | with_reducible apply R.orV
          | with_reducible apply R.notV
          | with_reducible apply R.chain
          | with_reducible apply R.tupL
          | with_reducible apply R.lstL
          | with_reducible apply R.cat
          | with_reducible apply R.absI
          | with_reducible apply R.intI
          | with_reducible apply R.intB
          | with_reducible apply R.eqS
          | with_reducible apply R.eqBl
          | with_reducible apply R.neBl
          | with_reducible apply R.sl
          | with_reducible apply R.noPart
          | with_reducible apply R.part
          | with_reducible apply R.isInt
          | with_reducible apply R.slL
          | with_reducible apply R.isiT
          | with_reducible apply R.isiLst
          | with_reducible apply R.nwT
          | with_reducible apply R.nwL
          | ((with_reducible apply R.mt); intro HN tn sn nn ht)
          | ((with_reducible apply R.ml); intro HN tn sn nn ht)
          | ((with_reducible apply R.isiTupS); focus ((repeat' (first | with_reducible assumption | with_reducible apply hU | ((with_reducible apply SqT.of); with_reducible assumption) | ((with_reducible apply same_seqT); with_reducible assumption) | ((with_reducible apply kp_seqT); with_reducible assumption) | ((with_reducible apply Dw.same); with_reducible assumption))); done))
          | ((with_reducible apply R.ne4); focus ((repeat' (first | with_reducible assumption | with_reducible apply hU | ((with_reducible apply SqT.of); with_reducible assumption) | ((with_reducible apply same_seqT); with_reducible assumption) | ((with_reducible apply kp_seqT); with_reducible assumption) | ((with_reducible apply Dw.same); with_reducible assumption))); done))
          | ((with_reducible apply R.ne3); focus ((repeat' (first | with_reducible assumption | with_reducible apply hU | ((with_reducible apply SqT.of); with_reducible assumption) | ((with_reducible apply same_seqT); with_reducible assumption) | ((with_reducible apply kp_seqT); with_reducible assumption) | ((with_reducible apply Dw.same); with_reducible assumption))); done))
          | ((with_reducible apply R.ne2); focus ((repeat' (first | with_reducible assumption | with_reducible apply hU | ((with_reducible apply SqT.of); with_reducible assumption) | ((with_reducible apply same_seqT); with_reducible assumption) | ((with_reducible apply kp_seqT); with_reducible assumption) | ((with_reducible apply Dw.same); with_reducible assumption))); done))
          | ((with_reducible apply R.eq4); focus ((repeat' (first | with_reducible assumption | with_reducible apply hU | ((with_reducible apply SqT.of); with_reducible assumption) | ((with_reducible apply same_seqT); with_reducible assumption) | ((with_reducible apply kp_seqT); with_reducible assumption) | ((with_reducible apply Dw.same); with_reducible assumption))); done))
          | ((with_reducible apply R.eq3); focus ((repeat' (first | with_reducible assumption | with_reducible apply hU | ((with_reducible apply SqT.of); with_reducible assumption) | ((with_reducible apply same_seqT); with_reducible assumption) | ((with_reducible apply kp_seqT); with_reducible assumption) | ((with_reducible apply Dw.same); with_reducible assumption))); done))
          | ((with_reducible apply R.eq2); focus ((repeat' (first | with_reducible assumption | with_reducible apply hU | ((with_reducible apply SqT.of); with_reducible assumption) | ((with_reducible apply same_seqT); with_reducible assumption) | ((with_reducible apply kp_seqT); with_reducible assumption) | ((with_reducible apply Dw.same); with_reducible assumption))); done))
          | with_reducible apply uLawNext
          | with_reducible apply uLawWide
          | ((with_reducible apply R.nw); intro HN tn sn ht)
          | with_reducible apply iteT
          | with_reducible apply iteF
          | with_reducible apply R.notT
          | with_reducible apply R.notF
          | ((with_reducible apply SqT.of); with_reducible assumption)
          | ((with_reducible apply SqL.of); with_reducible assumption)
          | ((with_reducible apply same_seqT); with_reducible assumption)
          | ((with_reducible apply sameB); with_reducible assumption)
          | ((with_reducible apply same_at); with_reducible assumption)
          | ((with_reducible apply kp_seqT); with_reducible assumption)
          | ((with_reducible apply Same.seq); with_reducible assumption)
          | ((with_reducible apply Kp.seqL); with_reducible assumption)
          | ((with_reducible apply fresh_ne); with_reducible assumption)
          | ((with_reducible apply Dw.same); with_reducible assumption)
          | ((with_reducible apply R.isEq); exact eq_true (by first | decide | omega))
          | ((with_reducible apply R.isLt); first | decide | omega)
          | ((with_reducible apply R.isLtI); first | decide | omega)
          | ((with_reducible apply R.isLeI); first | decide | omega)
          | ((with_reducible apply R.cdiv); exact rfl)
          | ((with_reducible apply R.cpow); exact rfl)
          | with_reducible apply R.cdivX
          | ((with_reducible apply R.isNe); omega)
          | with_reducible apply hU
          | ((with_reducible apply wayNF); first | exact rfl | exact ⟨rfl, rfl⟩ | exact ⟨rfl, rfl, rfl⟩ | exact ⟨rfl, rfl, rfl, rfl⟩)
          | with_reducible apply R.forE
          | with_reducible apply R.rng1
          | with_reducible apply R.rng2
          | with_reducible apply R.rg1
          | with_reducible apply R.rg2
          | with_reducible apply R.lcE
          | with_reducible apply R.itup
          | with_reducible apply R.ilst
          )
        refine ⟨t, t1, t2, k, _, _, v, rfl, ?_, ?_, ?_, ?_, c1, c2, ?_⟩
        · exact same_upd np3 _ _ (same_upd np2 _ _ (sn _ _ (k8 _ _ (by intro e; subst e; exact tne htN dwN) htN)))
        · exact same_upd np3 _ _ (same_upd np2 _ _ (sn _ _ (k8 _ _ (by intro e; subst e; exact tne ht1N dwN) ht1N)))
        · exact same_upd np3 _ _ (same_upd np2 _ _ (sn _ _ (k8 _ _ (by intro e; subst e; exact tne ht2N dwN) ht2N)))
        · rw [List.length_drop]
          omega
        repeat' (first
          | with_reducible apply R.var
          | ((with_reducible apply R.isEq); exact rfl)
          | with_reducible apply R.op
          | with_reducible apply R.i2
          | with_reducible apply R.i0
          | with_reducible apply R.con
          | with_reducible apply R.cons
          | with_reducible apply R.nil
          | with_reducible apply R.gcons
          | with_reducible apply R.gname
          | ((with_reducible apply R.ixT); (focus ((repeat' (first | with_reducible assumption | with_reducible apply hU | ((with_reducible apply SqT.of); with_reducible assumption) | ((with_reducible apply same_seqT); with_reducible assumption) | ((with_reducible apply kp_seqT); with_reducible assumption) | ((with_reducible apply Dw.same); with_reducible assumption))); done)); exact rfl)
          | ((with_reducible apply R.ixL); (focus ((repeat' (first | with_reducible assumption | ((with_reducible apply SqL.of); with_reducible assumption) | ((with_reducible apply Same.seq); with_reducible assumption) | ((with_reducible apply Kp.seqL); with_reducible assumption) | ((with_reducible apply fresh_ne); with_reducible assumption) | ((with_reducible apply Dw.same); with_reducible assumption))); done)); exact rfl)
          | with_reducible assumption
          | with_reducible apply Bd.mulW
          | with_reducible apply Bd.mul
          | with_reducible apply Bd.add
          | with_reducible apply Bd.sub
          | ((with_reducible apply Bd.l8); exact eq_true (by decide))
          | ((with_reducible apply Bd.lit); exact eq_true (by decide))
          | with_reducible apply Bd.neg
          | with_reducible apply Bd.div
          | with_reducible apply Bd.abs
          | with_reducible apply Bd.mod
          | with_reducible apply Bd.fdiv
          | ((with_reducible apply Bd.om); omega)
          | ((with_reducible apply R.isLe); first | decide | omega)
          | with_reducible apply R.un
          | with_reducible apply R.u1
          | with_reducible apply R.tup
          | with_reducible apply R.lst
          | with_reducible apply R.call
          | with_reducible apply R.callB
          | with_reducible apply R.gtup
          | with_reducible apply R.gnil
          | with_reducible apply R.seq
          | with_reducible apply R.asg
          | with_reducible apply R.ret
          | with_reducible apply R.brk
          | with_reducible apply R.cont
          | with_reducible apply R.next
          | with_reducible apply R.drop
          | with_reducible apply R.par
          | with_reducible apply R.par2
          | with_reducible apply R.ifs
          | with_reducible apply R.tif
          | with_reducible apply R.test
          | with_reducible apply R.tb'
          | with_reducible apply R.isbl
          | with_reducible apply R.cmp
          | with_reducible apply R.t2i
          | with_reducible apply R.intp
          | with_reducible apply R.and
          | with_reducible apply R.or
          | with_reducible apply R.not
          | with_reducible apply R.andV
          | with_reducible apply R.orV
          | with_reducible apply R.notV
          | with_reducible apply R.chain
          | with_reducible apply R.tupL
          | with_reducible apply R.lstL
          | with_reducible apply R.cat
          | with_reducible apply R.absI
          | with_reducible apply R.intI
          | with_reducible apply R.intB
          | with_reducible apply R.eqS
          | with_reducible apply R.eqBl
          | with_reducible apply R.neBl
          | with_reducible apply R.sl
          | with_reducible apply R.noPart
          | with_reducible apply R.part
          | with_reducible apply R.isInt
          | with_reducible apply R.slL
          | with_reducible apply R.isiT
          | with_reducible apply R.isiLst
          | with_reducible apply R.nwT
          | with_reducible apply R.nwL
          | ((with_reducible apply R.mt); intro HN tn sn nn ht)
          | ((with_reducible apply R.ml); intro HN tn sn nn ht)
          | ((with_reducible apply R.isiTupS); focus ((repeat' (first | with_reducible assumption | with_reducible apply hU | ((with_reducible apply SqT.of); with_reducible assumption) | ((with_reducible apply same_seqT); with_reducible assumption) | ((with_reducible apply kp_seqT); with_reducible assumption) | ((with_reducible apply Dw.same); with_reducible assumption))); done))
          | ((with_reducible apply R.ne4); focus ((repeat' (first | with_reducible assumption | with_reducible apply hU | ((with_reducible apply SqT.of); with_reducible assumption) | ((with_reducible apply same_seqT); with_reducible assumption) | ((with_reducible apply kp_seqT); with_reducible assumption) | ((with_reducible apply Dw.same); with_reducible assumption))); done))
          | ((with_reducible apply R.ne3); focus ((repeat' (first | with_reducible assumption | with_reducible apply hU | ((with_reducible apply SqT.of); with_reducible assumption) | ((with_reducible apply same_seqT); with_reducible assumption) | ((with_reducible apply kp_seqT); with_reducible assumption) | ((with_reducible apply Dw.same); with_reducible assumption))); done))
          | ((with_reducible apply R.ne2); focus ((repeat' (first | with_reducible assumption | with_reducible apply hU | ((with_reducible apply SqT.of); with_reducible assumption) | ((with_reducible apply same_seqT); with_reducible assumption) | ((with_reducible apply kp_seqT); with_reducible assumption) | ((with_reducible apply Dw.same); with_reducible assumption))); done))
          | ((with_reducible apply R.eq4); focus ((repeat' (first | with_reducible assumption | with_reducible apply hU | ((with_reducible apply SqT.of); with_reducible assumption) | ((with_reducible apply same_seqT); with_reducible assumption) | ((with_reducible apply kp_seqT); with_reducible assumption) | ((with_reducible apply Dw.same); with_reducible assumption))); done))
          | ((with_reducible apply R.eq3); focus ((repeat' (first | with_reducible assumption | with_reducible apply hU | ((with_reducible apply SqT.of); with_reducible assumption) | ((with_reducible apply same_seqT); with_reducible assumption) | ((with_reducible apply kp_seqT); with_reducible assumption) | ((with_reducible apply Dw.same); with_reducible assumption))); done))
          | ((with_reducible apply R.eq2); focus ((repeat' (first | with_reducible assumption | with_reducible apply hU | ((with_reducible apply SqT.of); with_reducible assumption) | ((with_reducible apply same_seqT); with_reducible assumption) | ((with_reducible apply kp_seqT); with_reducible assumption) | ((with_reducible apply Dw.same); with_reducible assumption))); done))
          | with_reducible apply uLawNext
          | with_reducible apply uLawWide
          | ((with_reducible apply R.nw); intro HN tn sn ht)
          | with_reducible apply iteT
          | with_reducible apply iteF
          | with_reducible apply R.notT
          | with_reducible apply R.notF
          | ((with_reducible apply SqT.of); with_reducible assumption)
          | ((with_reducible apply SqL.of); with_reducible assumption)
          | ((with_reducible apply same_seqT); with_reducible assumption)
          | ((with_reducible apply sameB); with_reducible assumption)
          | ((with_reducible apply same_at); with_reducible assumption)
          | ((with_reducible apply kp_seqT); with_reducible assumption)
          | ((with_reducible apply Same.seq); with_reducible assumption)
          | ((with_reducible apply Kp.seqL); with_reducible assumption)
          | ((with_reducible apply fresh_ne); with_reducible assumption)
          | ((with_reducible apply Dw.same); with_reducible assumption)
          | ((with_reducible apply R.isEq); exact eq_true (by first | decide | omega))
          | ((with_reducible apply R.isLt); first | decide | omega)
          | ((with_reducible apply R.isLtI); first | decide | omega)
          | ((with_reducible apply R.isLeI); first | decide | omega)
          | ((with_reducible apply R.cdiv); exact rfl)
          | ((with_reducible apply R.cpow); exact rfl)
          | with_reducible apply R.cdivX
          | ((with_reducible apply R.isNe); omega)
          | with_reducible apply hU
          | ((with_reducible apply wayNF); first | exact rfl | exact ⟨rfl, rfl⟩ | exact ⟨rfl, rfl, rfl⟩ | exact ⟨rfl, rfl, rfl, rfl⟩)
          | with_reducible apply R.forE
          | with_reducible apply R.rng1
          | with_reducible apply R.rng2
          | with_reducible apply R.rg1
          | with_reducible apply R.rg2
          | with_reducible apply R.lcE
          | with_reducible apply R.itup
          | with_reducible apply R.ilst
          )
        rw [decide_eq_true rfl]
        exact qq _
end
theorem all_mk {l : PySem.W.OpenLaw} {w : World} {K : PySem.W.Frag} {h : Heap} {mg : Str → Option Value} {f : Addr} (X : K.In h) (G : h.Ns mainGlobals mg) (hfa : mg "law" = some (.ref f))
    {f0 f1 f2 f3 f4 f5 f6 f7 f8 f9 f10 f11 f12 f13 f14 : Addr}
    {od0 an0 od1 an1 od2 an2 od3 an3 od4 an4 od5 an5 od6 an6 od7 an7 od8 an8 od9 an9 od10 an10 od11 an11 od12 an12 od13 an13 od14 an14 : Option Addr} {sl0 sl1 sl2 sl3 sl4 sl5 sl6 sl7 sl8 sl9 sl10 sl11 sl12 sl13 sl14 : Array (Option Value)}
    {oc0 kV0 dc0 pm0 cd0 ct0 oc1 kV1 dc1 pm1 cd1 ct1 oc2 kV2 dc2 pm2 cd2 ct2 oc3 kV3 dc3 pm3 cd3 ct3 oc4 kV4 dc4 pm4 cd4 ct4 oc5 kV5 dc5 pm5 cd5 ct5 oc6 kV6 dc6 pm6 cd6 ct6 oc7 kV7 dc7 pm7 cd7 ct7 oc8 kV8 dc8 pm8 cd8 ct8 oc9 kV9 dc9 pm9 cd9 ct9 oc10 kV10 dc10 pm10 cd10 ct10 oc11 kV11 dc11 pm11 cd11 ct11 oc12 kV12 dc12 pm12 cd12 ct12 oc13 kV13 dc13 pm13 cd13 ct13 oc14 kV14 dc14 pm14 cd14 ct14 : Value}
    (a0 : PySem.W.nsIn K mainGlobals "floor_root" = some (some (.ref f0))) (l0 : K.lookup f0 = some ⟨oc0, od0, .func (PySem.W.fnOf "floor_root" "floor_root" (defArgs sFloorRoot) (defBody sFloorRoot) (defScope sFloorRoot) .none kV0 dc0 pm0 an0 cd0 ct0), sl0⟩) (c0 : PySem.W.codeIn K cd0 "floor_root" = true) (k0 : PySem.W.keepIn K (.ref f0) = true)
    (a1 : PySem.W.nsIn K mainGlobals "is_square" = some (some (.ref f1))) (l1 : K.lookup f1 = some ⟨oc1, od1, .func (PySem.W.fnOf "is_square" "is_square" (defArgs sIsSquare) (defBody sIsSquare) (defScope sIsSquare) .none kV1 dc1 pm1 an1 cd1 ct1), sl1⟩) (c1 : PySem.W.codeIn K cd1 "is_square" = true) (k1 : PySem.W.keepIn K (.ref f1) = true)
    (a2 : PySem.W.nsIn K mainGlobals "expand" = some (some (.ref f2))) (l2 : K.lookup f2 = some ⟨oc2, od2, .func (PySem.W.fnOf "expand" "expand" (defArgs sExpand) (defBody sExpand) (defScope sExpand) .none kV2 dc2 pm2 an2 cd2 ct2), sl2⟩) (c2 : PySem.W.codeIn K cd2 "expand" = true) (k2 : PySem.W.keepIn K (.ref f2) = true)
    (a3 : PySem.W.nsIn K mainGlobals "_part_of" = some (some (.ref f3))) (l3 : K.lookup f3 = some ⟨oc3, od3, .func (PySem.W.fnOf "_part_of" "_part_of" (defArgs sPartOf) (defBody sPartOf) (defScope sPartOf) .none kV3 dc3 pm3 an3 cd3 ct3), sl3⟩) (c3 : PySem.W.codeIn K cd3 "_part_of" = true) (k3 : PySem.W.keepIn K (.ref f3) = true)
    (a4 : PySem.W.nsIn K mainGlobals "part_at" = some (some (.ref f4))) (l4 : K.lookup f4 = some ⟨oc4, od4, .func (PySem.W.fnOf "part_at" "part_at" (defArgs sPartAt) (defBody sPartAt) (defScope sPartAt) .none kV4 dc4 pm4 an4 cd4 ct4), sl4⟩) (c4 : PySem.W.codeIn K cd4 "part_at" = true) (k4 : PySem.W.keepIn K (.ref f4) = true)
    (a5 : PySem.W.nsIn K mainGlobals "_law_cell" = some (some (.ref f5))) (l5 : K.lookup f5 = some ⟨oc5, od5, .func (PySem.W.fnOf "_law_cell" "_law_cell" (defArgs sLawCell) (defBody sLawCell) (defScope sLawCell) .none kV5 dc5 pm5 an5 cd5 ct5), sl5⟩) (c5 : PySem.W.codeIn K cd5 "_law_cell" = true) (k5 : PySem.W.keepIn K (.ref f5) = true)
    (a6 : PySem.W.nsIn K mainGlobals "_law_numbers" = some (some (.ref f6))) (l6 : K.lookup f6 = some ⟨oc6, od6, .func (PySem.W.fnOf "_law_numbers" "_law_numbers" (defArgs sLawNumbers) (defBody sLawNumbers) (defScope sLawNumbers) .none kV6 dc6 pm6 an6 cd6 ct6), sl6⟩) (c6 : PySem.W.codeIn K cd6 "_law_numbers" = true) (k6 : PySem.W.keepIn K (.ref f6) = true)
    (a7 : PySem.W.nsIn K mainGlobals "_law_state" = some (some (.ref f7))) (l7 : K.lookup f7 = some ⟨oc7, od7, .func (PySem.W.fnOf "_law_state" "_law_state" (defArgs sLawState) (defBody sLawState) (defScope sLawState) .none kV7 dc7 pm7 an7 cd7 ct7), sl7⟩) (c7 : PySem.W.codeIn K cd7 "_law_state" = true) (k7 : PySem.W.keepIn K (.ref f7) = true)
    (a8 : PySem.W.nsIn K mainGlobals "_law_next" = some (some (.ref f8))) (l8 : K.lookup f8 = some ⟨oc8, od8, .func (PySem.W.fnOf "_law_next" "_law_next" (defArgs sLawNext) (defBody sLawNext) (defScope sLawNext) .none kV8 dc8 pm8 an8 cd8 ct8), sl8⟩) (c8 : PySem.W.codeIn K cd8 "_law_next" = true) (k8 : PySem.W.keepIn K (.ref f8) = true)
    (a9 : PySem.W.nsIn K mainGlobals "_law_wide" = some (some (.ref f9))) (l9 : K.lookup f9 = some ⟨oc9, od9, .func (PySem.W.fnOf "_law_wide" "_law_wide" (defArgs sLawWide) (defBody sLawWide) (defScope sLawWide) .none kV9 dc9 pm9 an9 cd9 ct9), sl9⟩) (c9 : PySem.W.codeIn K cd9 "_law_wide" = true) (k9 : PySem.W.keepIn K (.ref f9) = true)
    (a10 : PySem.W.nsIn K mainGlobals "_law_root" = some (some (.ref f10))) (l10 : K.lookup f10 = some ⟨oc10, od10, .func (PySem.W.fnOf "_law_root" "_law_root" (defArgs sLawRoot) (defBody sLawRoot) (defScope sLawRoot) .none kV10 dc10 pm10 an10 cd10 ct10), sl10⟩) (c10 : PySem.W.codeIn K cd10 "_law_root" = true) (k10 : PySem.W.keepIn K (.ref f10) = true)
    (a11 : PySem.W.nsIn K mainGlobals "_law_is_at_most" = some (some (.ref f11))) (l11 : K.lookup f11 = some ⟨oc11, od11, .func (PySem.W.fnOf "_law_is_at_most" "_law_is_at_most" (defArgs sLawIsAtMost) (defBody sLawIsAtMost) (defScope sLawIsAtMost) .none kV11 dc11 pm11 an11 cd11 ct11), sl11⟩) (c11 : PySem.W.codeIn K cd11 "_law_is_at_most" = true) (k11 : PySem.W.keepIn K (.ref f11) = true)
    (a12 : PySem.W.nsIn K mainGlobals "_law_part" = some (some (.ref f12))) (l12 : K.lookup f12 = some ⟨oc12, od12, .func (PySem.W.fnOf "_law_part" "_law_part" (defArgs sLawPart) (defBody sLawPart) (defScope sLawPart) .none kV12 dc12 pm12 an12 cd12 ct12), sl12⟩) (c12 : PySem.W.codeIn K cd12 "_law_part" = true) (k12 : PySem.W.keepIn K (.ref f12) = true)
    (a13 : PySem.W.nsIn K mainGlobals "_law_refused" = some (some (.ref f13))) (l13 : K.lookup f13 = some ⟨oc13, od13, .func (PySem.W.fnOf "_law_refused" "_law_refused" (defArgs sLawRefused) (defBody sLawRefused) (defScope sLawRefused) .none kV13 dc13 pm13 an13 cd13 ct13), sl13⟩) (c13 : PySem.W.codeIn K cd13 "_law_refused" = true) (k13 : PySem.W.keepIn K (.ref f13) = true)
    (a14 : PySem.W.nsIn K mainGlobals "law" = some (some (.ref f14))) (l14 : K.lookup f14 = some ⟨oc14, od14, .func (PySem.W.fnOf "law" "law" (defArgs sLaw) (defBody sLaw) (defScope sLaw) .none kV14 dc14 pm14 an14 cd14 ct14), sl14⟩) (c14 : PySem.W.codeIn K cd14 "law" = true) (k14 : PySem.W.keepIn K (.ref f14) = true)
    (z0 : PySem.W.nsIn K mainGlobals "abs" = some none)
    (z1 : PySem.W.nsIn K mainGlobals "int" = some none)
    (z2 : PySem.W.nsIn K mainGlobals "isinstance" = some none)
    (z3 : PySem.W.nsIn K mainGlobals "len" = some none)
    (z4 : PySem.W.nsIn K mainGlobals "min" = some none)
    (z5 : PySem.W.nsIn K mainGlobals "range" = some none)
    (z6 : PySem.W.nsIn K mainGlobals "tuple" = some none)
    (i0 : PySem.W.nsIn K mainGlobals "isqrt" = some (some (.builtin "math.isqrt")))
    {fB fT fC fI TI NX : Addr} {nmX qX : Str} {bsX : List Value} {snX : List Str} {subX : List Value} {abX : Bool} {colX : Option Bool} {ddX : Option Addr} {mX0 mX1 mX2 mX3 mX5 : Option Value} {odI anI odT : Option Addr} {slI slT : Array (Option Value)} {ocI kVI dcI pmI cdI ctI ocT : Value} {nI : Nat}
    (aB : PySem.W.nsIn K mainGlobals "ConicError" = some (some (.ref fB))) (aT : PySem.W.nsIn K mainGlobals "BadText" = some (some (.ref fT))) (aC : PySem.W.nsIn K mainGlobals "BadForm" = some (some (.ref fC)))
    (xC : K.lookup fC = some (excClassObj nmX qX fC NX bsX [.ref fB, .type "ValueError", .type "Exception", .type "BaseException", .type "object"] true snX subX abX colX ddX mX0 mX1 mX2 mX3 mX5 "ValueError.__new__"))
    (xsa : PySem.W.findIn K (.ref fC) "__setattr__" = some (some (.builtin "object.__setattr__"))) (xga : PySem.W.findIn K (.ref fC) "__getattribute__" = some (some (.builtin "BaseException.__getattribute__"))) (xgg : PySem.W.findIn K (.ref fC) "__getattr__" = some none) (xnw : PySem.W.findIn K (.ref fC) "what" = some none) (xin : PySem.W.findIn K (.ref fC) "__init__" = some (some (.ref fI))) (xca : PySem.W.findIn K (.ref fC) "__class__" = some (some (.builtin "object.__class__")))
    (xty : PySem.W.typeIn K (.ref fI) = some (.type "function")) (xl : K.lookup fI = some ⟨ocI, odI, .func (PySem.W.fnOf "__init__" "ConicError.__init__" (defArgs sInit) (defBody sInit) (defScope sInit) (.ref TI) kVI dcI pmI anI cdI ctI), slI⟩) (xc : PySem.W.codeIn K cdI "ConicError.__init__" = true) (xkI : PySem.W.keepIn K (.ref fI) = true)
    (xT : K.lookup TI = some ⟨ocT, odT, .seq #[.none] nI, slT⟩) (xkC : PySem.W.keepIn K (.ref fC) = true) (xex : PySem.W.subIn K (.ref fC) (.type "BaseException") = some true) (xtC : PySem.W.typeIn K (.ref fC) = some (.type "type")) (xhd : PySem.W.hasDictIn K fC = true) (xic : PySem.W.isClsIn K fC = true)
    (xcg : PySem.W.specialIn K (.builtin "object.__class__") "__get__" = some (some (.builtin "getset_descriptor.__get__"))) (xct : PySem.W.takesIn K (.builtin "object.__class__") = some true) (xmo : PySem.W.mroIn K fC (.type "object") = some true)
    (xm1 : PySem.W.exmOne K (.ref fC) (.ref fB) = some true) (xk1 : PySem.W.kitOne K (.ref fC) (.ref fC) = some true) (xk2 : PySem.W.kitOne K (.ref fC) (.ref fT) = some false)
    : ∃ fd : FuncData, (∀ (s : Shared) (v : Value), BindsTo s fd ⟨[v], []⟩ [("script", v)]) ∧ ∀ base : Heap, K.In base → base.Ns mainGlobals mg → FnOk l.prog w K mg base CX0 5 f fd ["script"] (spLaw K) := by
  have e := hfa.symm.trans (PySem.W.mg_of X G a14)
  cases e
  have F0 := fun_mk (st := sFloorRoot) l0 c0 k0
  have F1 := fun_mk (st := sIsSquare) l1 c1 k1
  have F2 := fun_mk (st := sExpand) l2 c2 k2
  have F3 := fun_mk (st := sPartOf) l3 c3 k3
  have F4 := fun_mk (st := sPartAt) l4 c4 k4
  have F5 := fun_mk (st := sLawCell) l5 c5 k5
  have F6 := fun_mk (st := sLawNumbers) l6 c6 k6
  have F7 := fun_mk (st := sLawState) l7 c7 k7
  have F8 := fun_mk (st := sLawNext) l8 c8 k8
  have F9 := fun_mk (st := sLawWide) l9 c9 k9
  have F10 := fun_mk (st := sLawRoot) l10 c10 k10
  have F11 := fun_mk (st := sLawIsAtMost) l11 c11 k11
  have F12 := fun_mk (st := sLawPart) l12 c12 k12
  have F13 := fun_mk (st := sLawRefused) l13 c13 k13
  have F14 := fun_mk (st := sLaw) l14 c14 k14
  have b0 := F0.binds (ps := ["n"]) fun _ _ _ _ _ _ us hl => match us, hl with | [_], _ => rfl
  have b1 := F1.binds (ps := ["n"]) fun _ _ _ _ _ _ us hl => match us, hl with | [_], _ => rfl
  have b2 := F2.binds (ps := ["p", "q", "d"]) fun _ _ _ _ _ _ us hl => match us, hl with | [_, _, _], _ => rfl
  have b3 := F3.binds (ps := ["p", "q", "root"]) fun _ _ _ _ _ _ us hl => match us, hl with | [_, _, _], _ => rfl
  have b4 := F4.binds (ps := ["expansion", "index"]) fun _ _ _ _ _ _ us hl => match us, hl with | [_, _], _ => rfl
  have b5 := F5.binds (ps := ["script", "k"]) fun _ _ _ _ _ _ us hl => match us, hl with | [_, _], _ => rfl
  have b6 := F6.binds (ps := ["cell", "many"]) fun _ _ _ _ _ _ us hl => match us, hl with | [_, _], _ => rfl
  have b7 := F7.binds (ps := ["script"]) fun _ _ _ _ _ _ us hl => match us, hl with | [_], _ => rfl
  have b8 := F8.binds (ps := ["state", "many"]) fun _ _ _ _ _ _ us hl => match us, hl with | [_, _], _ => rfl
  have b9 := F9.binds (ps := ["state", "many"]) fun _ _ _ _ _ _ us hl => match us, hl with | [_, _], _ => rfl
  have b10 := F10.binds (ps := ["n"]) fun _ _ _ _ _ _ us hl => match us, hl with | [_], _ => rfl
  have b11 := F11.binds (ps := ["n", "p", "q", "d"]) fun _ _ _ _ _ _ us hl => match us, hl with | [_, _, _, _], _ => rfl
  have b12 := F12.binds (ps := ["p", "q", "d"]) fun _ _ _ _ _ _ us hl => match us, hl with | [_, _, _], _ => rfl
  have b13 := F13.binds (ps := ["p", "q", "d"]) fun _ _ _ _ _ _ us hl => match us, hl with | [_, _, _], _ => rfl
  have b14 := F14.binds (ps := ["script"]) fun _ _ _ _ _ _ us hl => match us, hl with | [_], _ => rfl
  let fa : Nat → Addr := fun i => [f0, f1, f2, f3, f4, f5, f6, f7, f8, f9, f10, f11, f12, f13, f, fB, fT, fC, fI].getD i 0
  let fd : Nat → FuncData := fun i => match i with
    | 18 => PySem.W.fnOf "__init__" "ConicError.__init__" (defArgs sInit) (defBody sInit) (defScope sInit) (.ref TI) kVI dcI pmI anI cdI ctI
    | 0 => PySem.W.fnOf "floor_root" "floor_root" (defArgs sFloorRoot) (defBody sFloorRoot) (defScope sFloorRoot) .none kV0 dc0 pm0 an0 cd0 ct0
    | 1 => PySem.W.fnOf "is_square" "is_square" (defArgs sIsSquare) (defBody sIsSquare) (defScope sIsSquare) .none kV1 dc1 pm1 an1 cd1 ct1
    | 2 => PySem.W.fnOf "expand" "expand" (defArgs sExpand) (defBody sExpand) (defScope sExpand) .none kV2 dc2 pm2 an2 cd2 ct2
    | 3 => PySem.W.fnOf "_part_of" "_part_of" (defArgs sPartOf) (defBody sPartOf) (defScope sPartOf) .none kV3 dc3 pm3 an3 cd3 ct3
    | 4 => PySem.W.fnOf "part_at" "part_at" (defArgs sPartAt) (defBody sPartAt) (defScope sPartAt) .none kV4 dc4 pm4 an4 cd4 ct4
    | 5 => PySem.W.fnOf "_law_cell" "_law_cell" (defArgs sLawCell) (defBody sLawCell) (defScope sLawCell) .none kV5 dc5 pm5 an5 cd5 ct5
    | 6 => PySem.W.fnOf "_law_numbers" "_law_numbers" (defArgs sLawNumbers) (defBody sLawNumbers) (defScope sLawNumbers) .none kV6 dc6 pm6 an6 cd6 ct6
    | 7 => PySem.W.fnOf "_law_state" "_law_state" (defArgs sLawState) (defBody sLawState) (defScope sLawState) .none kV7 dc7 pm7 an7 cd7 ct7
    | 8 => PySem.W.fnOf "_law_next" "_law_next" (defArgs sLawNext) (defBody sLawNext) (defScope sLawNext) .none kV8 dc8 pm8 an8 cd8 ct8
    | 9 => PySem.W.fnOf "_law_wide" "_law_wide" (defArgs sLawWide) (defBody sLawWide) (defScope sLawWide) .none kV9 dc9 pm9 an9 cd9 ct9
    | 10 => PySem.W.fnOf "_law_root" "_law_root" (defArgs sLawRoot) (defBody sLawRoot) (defScope sLawRoot) .none kV10 dc10 pm10 an10 cd10 ct10
    | 11 => PySem.W.fnOf "_law_is_at_most" "_law_is_at_most" (defArgs sLawIsAtMost) (defBody sLawIsAtMost) (defScope sLawIsAtMost) .none kV11 dc11 pm11 an11 cd11 ct11
    | 12 => PySem.W.fnOf "_law_part" "_law_part" (defArgs sLawPart) (defBody sLawPart) (defScope sLawPart) .none kV12 dc12 pm12 an12 cd12 ct12
    | 13 => PySem.W.fnOf "_law_refused" "_law_refused" (defArgs sLawRefused) (defBody sLawRefused) (defScope sLawRefused) .none kV13 dc13 pm13 an13 cd13 ct13
    | _ => PySem.W.fnOf "law" "law" (defArgs sLaw) (defBody sLaw) (defScope sLaw) .none kV14 dc14 pm14 an14 cd14 ct14
  have FI : FunD K "__init__" "ConicError.__init__" (defArgs sInit) (defBody sInit) (defScope sInit) [.non] [] fI (fd 18) := ⟨⟨_, _, _, _, _, _, _, _, _, _, rfl, xl, xc, .inr ⟨by simp, TI, _, [.none], nI, rfl, xT, rfl, .cons rfl .nil⟩, .inl rfl⟩, xkI⟩
  have BI : Binds K (fd 18) ["self", "what"] [] := by
    obtain ⟨ds, hv, hb⟩ := FI.binds1 2 1 (ps := ["self", "what"]) (by simp) rfl fun T kV doc pm an cdv ct us its l1 l2 => match us, its, l1, l2 with | [_, _], [_], _, _ => ⟨_, rfl, rfl⟩
    cases hv
    exact hb
  have T : Txt K mg fa fd := {
    F_floor_root := F0, B_floor_root := b0, G_floor_root := PySem.W.mg_of X G a0,
    F_is_square := F1, B_is_square := b1, G_is_square := PySem.W.mg_of X G a1,
    F_expand := F2, B_expand := b2, G_expand := PySem.W.mg_of X G a2,
    F__part_of := F3, B__part_of := b3, G__part_of := PySem.W.mg_of X G a3,
    F_part_at := F4, B_part_at := b4, G_part_at := PySem.W.mg_of X G a4,
    F__law_cell := F5, B__law_cell := b5, G__law_cell := PySem.W.mg_of X G a5,
    F__law_numbers := F6, B__law_numbers := b6, G__law_numbers := PySem.W.mg_of X G a6,
    F__law_state := F7, B__law_state := b7, G__law_state := PySem.W.mg_of X G a7,
    F__law_next := F8, B__law_next := b8, G__law_next := PySem.W.mg_of X G a8,
    F__law_wide := F9, B__law_wide := b9, G__law_wide := PySem.W.mg_of X G a9,
    F__law_root := F10, B__law_root := b10, G__law_root := PySem.W.mg_of X G a10,
    F__law_is_at_most := F11, B__law_is_at_most := b11, G__law_is_at_most := PySem.W.mg_of X G a11,
    F__law_part := F12, B__law_part := b12, G__law_part := PySem.W.mg_of X G a12,
    F__law_refused := F13, B__law_refused := b13, G__law_refused := PySem.W.mg_of X G a13,
    F_law := F14, B_law := b14, G_law := PySem.W.mg_of X G a14,
    m_abs := PySem.W.mg_none_of X G z0, m_int := PySem.W.mg_none_of X G z1, m_isinstance := PySem.W.mg_none_of X G z2, m_len := PySem.W.mg_none_of X G z3, m_min := PySem.W.mg_none_of X G z4, m_range := PySem.W.mg_none_of X G z5, m_tuple := PySem.W.mg_none_of X G z6, g_isqrt := PySem.W.mg_of X G i0, g_ConicError := PySem.W.mg_of X G aB, g_BadText := PySem.W.mg_of X G aT, g_BadForm := PySem.W.mg_of X G aC, X_oex := ⟨⟨_, _, _, _, _, _, _, _, _, _, _, _, _, _, _, xC, rfl⟩, xsa, xex, xtC, xkC⟩, X_err := ⟨xic, xga, xgg, xex, xhd, xca, xcg, xct, xmo, xnw⟩, X_in := xin, X_ty := xty, X_fn := FI, X_b := BI, X_ex := xm1, X_k1 := xk1, X_k2 := xk2 }
  exact ⟨fd 14, fun s v => .of_eq rfl, fun base _ _ => okLaw T⟩
end Wc
open PySem PySem.W PyProof.Rows
set_option maxHeartbeats 0 in
theorem PySem.Challenge.cw_wholeconic_k05_continued_fractions_holds : PySem.Challenge.rw_wholeconic_k05_continued_fractions.Holds := by
  w_on; o_law; k_head; (case hw => w_witness2)
  k_fill
  refine L2.walk_of (l := PySem.Challenge.rw_wholeconic_k05_continued_fractions) (n := 63) (k := 5) (x := "script") (CX := fun _ => L2.CX0) (sp := fun w => Wc.spLaw _) rfl (by decide) rfl ⟨rfl, by decide, by decide⟩ (fun w h Y => PySem.W.kIn_of Y) ?F (fun _ _ a ns hl _ hS => ⟨a, ns, rfl, hS, hl, fun _ => rfl⟩) (fun _ _ _ _ _ h => h)
  case F =>
    intro w mg fa h KX G hmg
    refine' Wc.all_mk KX G hmg ?a0 ?l0 ?c0 ?k0 ?a1 ?l1 ?c1 ?k1 ?a2 ?l2 ?c2 ?k2 ?a3 ?l3 ?c3 ?k3 ?a4 ?l4 ?c4 ?k4 ?a5 ?l5 ?c5 ?k5 ?a6 ?l6 ?c6 ?k6 ?a7 ?l7 ?c7 ?k7 ?a8 ?l8 ?c8 ?k8 ?a9 ?l9 ?c9 ?k9 ?a10 ?l10 ?c10 ?k10 ?a11 ?l11 ?c11 ?k11 ?a12 ?l12 ?c12 ?k12 ?a13 ?l13 ?c13 ?k13 ?a14 ?l14 ?c14 ?k14 ?z0 ?z1 ?z2 ?z3 ?z4 ?z5 ?z6 ?i0 ?aB ?aT ?aC ?xC ?xsa ?xga ?xgg ?xnw ?xin ?xca ?xty ?xl ?xc ?xkI ?xT ?xkC ?xex ?xtC ?xhd ?xic ?xcg ?xct ?xmo ?xm1 ?xk1 ?xk2
    (case a0 => k_is); (case l0 => k_is); (case c0 => k_is); (case k0 => k_is); (case a1 => k_is); (case l1 => k_is); (case c1 => k_is); (case k1 => k_is); (case a2 => k_is); (case l2 => k_is); (case c2 => k_is); (case k2 => k_is); (case a3 => k_is); (case l3 => k_is); (case c3 => k_is); (case k3 => k_is); (case a4 => k_is); (case l4 => k_is); (case c4 => k_is); (case k4 => k_is); (case a5 => k_is); (case l5 => k_is); (case c5 => k_is); (case k5 => k_is); (case a6 => k_is); (case l6 => k_is); (case c6 => k_is); (case k6 => k_is); (case a7 => k_is); (case l7 => k_is); (case c7 => k_is); (case k7 => k_is); (case a8 => k_is); (case l8 => k_is); (case c8 => k_is); (case k8 => k_is); (case a9 => k_is); (case l9 => k_is); (case c9 => k_is); (case k9 => k_is); (case a10 => k_is); (case l10 => k_is); (case c10 => k_is); (case k10 => k_is); (case a11 => k_is); (case l11 => k_is); (case c11 => k_is); (case k11 => k_is); (case a12 => k_is); (case l12 => k_is); (case c12 => k_is); (case k12 => k_is); (case a13 => k_is); (case l13 => k_is); (case c13 => k_is); (case k13 => k_is); (case a14 => k_is); (case l14 => k_is); (case c14 => k_is); (case k14 => k_is); (case z0 => k_is); (case z1 => k_is); (case z2 => k_is); (case z3 => k_is); (case z4 => k_is); (case z5 => k_is); (case z6 => k_is); (case i0 => k_is); (case aB => first | k_is | rfl); (case aT => first | k_is | rfl); (case aC => first | k_is | rfl); (case xC => first | k_is | rfl); (case xsa => first | k_is | rfl); (case xga => first | k_is | rfl); (case xgg => first | k_is | rfl); (case xnw => first | k_is | rfl); (case xin => first | k_is | rfl); (case xca => first | k_is | rfl); (case xty => first | k_is | rfl); (case xl => first | k_is | rfl); (case xc => first | k_is | rfl); (case xkI => first | k_is | rfl); (case xT => first | k_is | rfl); (case xkC => first | k_is | rfl); (case xex => first | k_is | rfl); (case xtC => first | k_is | rfl); (case xhd => first | k_is | rfl); (case xic => first | k_is | rfl); (case xcg => first | k_is | rfl); (case xct => first | k_is | rfl); (case xmo => first | k_is | rfl); (case xm1 => first | k_is | rfl); (case xk1 => first | k_is | rfl); (case xk2 => first | k_is | rfl)
