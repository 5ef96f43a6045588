import PyProof.Rows.All
import Wide.All
import OpenK.AllK
import Wide.FinOn
import HandS.ForMost
import HandS.Wide
import HandS.WideBits
import PyProof.ReprRoads
import HandS.Style
import PySem.Challenge.RW_tiedtables_k03_places_fallbacks_ties_fou
import HandS.Strs
import PyProof.CallFns
import HandS.IsInst
import HandS.StrMore
import HandS.Walk
import PyProof.Rows.IntBool
import PyProof.Rows.StrDigitsNeg
import PyProof.Rows.StrJoinMade
import PyProof.Rows.StrCase
import HandS.Exc
import HandS.ExcField
import KE.KExcIs
import HandS.ExcInit
import KE.KExcInit
import HandS.Iter
import KE.GoesEnum
import PyProof.StrOps2
import HandS.CallSlots
import HandS.WordsExc
import HandS.Deep
import HandS.Zip
import HandS.ExcIs
set_option Elab.async false
set_option linter.all false
set_option maxRecDepth 100000
namespace TT
open PySem PySem.Spec PyProof.Rows L2

/-! ### an own def of the module, by its name -/
def Def (P : Program) (w : World) (K : PySem.W.Frag) (mg : Str → Option Value) (base : Heap) (k : Nat) (x : Str) (ps : List Str) (sp : Sp) : Prop :=
  ∃ f fd, mg x = some (.ref f) ∧ PySem.W.keepIn K (.ref f) = true ∧ Binds K fd ps [] ∧ FnOk P w K mg base CX0 k f fd ps sp
section
variable {X : Cx} {k j : Nat} {x : Str} {ps : List Str} {sp : Sp} {p pos : Pos} {e : Expr} {es : List Expr} {t : TA}
theorem pe_own (D : Def X.prog X.w X.K X.mg X.base k x ps sp) (hr : Room j X.A) (ha : PA X (e :: es) t) (hkj : k ≤ j := by decide) (hg : Gl X x := by rfl) (hdb : (x == ("__debug__" : Str)) = false := by decide)
    (he : starEach (e :: es) X.env = (false, eval e X.env) :: starEach es X.env := by rfl) (hpl : (backTo pos (starEach es X.env)).any (·.1) = false := by rfl) :
    PE X (.Call (.Name x p) (e :: es) [] pos) (tCall sp [] E0 t) := by
  obtain ⟨f, fd, hm, hk, hb, F⟩ := D
  exact pe_call F (hr.mono hkj) hg hm hk hb .nil pass0 ha hdb he hpl
theorem pe_gint {i : Int} (h : ∃ u, X.mg x = some (.int i u)) (hg : Gl X x := by rfl) (hdb : (x == ("__debug__" : Str)) = false := by decide) : PE X (.Name x p) (tC (.int i)) := by
  obtain ⟨u, hm⟩ := h
  exact pe_glob hg hm ⟨u, rfl⟩ hdb
end
theorem Def.mk {P : Program} {w : World} {K : PySem.W.Frag} {mg : Str → Option Value} {base : Heap} {k : Nat} {x : Str} {ps : List Str} {sp : Sp} {f : Addr} {fd : FuncData} (h1 : mg x = some (.ref f)) (h2 : PySem.W.keepIn K (.ref f) = true) (h3 : Binds K fd ps []) (h4 : FnOk P w K mg base CX0 k f fd ps sp) : Def P w K mg base k x ps sp := ⟨f, fd, h1, h2, h3, h4⟩

/-- the built-in names stand as they are -/
structure NB (mg : Str → Option Value) : Prop where
  b_list : mg "list" = none
  b_len : mg "len" = none
  b_divmod : mg "divmod" = none
  b_range : mg "range" = none
  b_min : mg "min" = none
  b_int : mg "int" = none
  b_bool : mg "bool" = none
  b_str : mg "str" = none
  b_tuple : mg "tuple" = none
  b_all : mg "all" = none
  b_any : mg "any" = none
  b_repr : mg "repr" = none
  b_isinstance : mg "isinstance" = none
  b_zip : mg "zip" = none
  b_enumerate : mg "enumerate" = none
  b_set : mg "set" = none

/-! ### masks: what is not to be leant on -/
def msk (M : List Addr) (H : Hp) : Hp := fun p => if p ∈ M then none else H p
/-- all but what stands at M is as it was -/
def Kept (M : List Addr) (H H' : Hp) : Prop := ∀ p o, H p = some o → p ∉ M → H' p = some o
theorem Kept.refl (M : List Addr) (H : Hp) : Kept M H H := fun _ _ h _ => h
theorem Kept.trans {M : List Addr} {H H1 H2 : Hp} (a : Kept M H H1) (b : Kept M H1 H2) : Kept M H H2 := fun p o h n => b p o (a p o h n) n
theorem Kept.of_same {M : List Addr} {H H' : Hp} (h : Same H H') : Kept M H H' := fun p o e _ => h p o e
theorem Kept.upd_new {M : List Addr} {H : Hp} {p : Addr} {o : HO} (h : H p = none) : Kept M H (upd H p o) := fun b u e _ => by
  rw [upd_ne (ne_of_none e h)]; exact e
theorem Kept.upd_in {M : List Addr} {H : Hp} {p : Addr} {o : HO} (h : p ∈ M) : Kept M H (upd H p o) := fun b u e n => by
  rw [upd_ne (fun (z : b = p) => n (by rw [z]; exact h))]; exact e
theorem Kept.mono {M M' : List Addr} {H H' : Hp} (h : Kept M H H') (s : ∀ p ∈ M, p ∈ M') : Kept M' H H' := fun p o e n => h p o e fun z => n (s p z)
/-- less is masked: what is masked no more was not there -/
theorem Kept.new {M : List Addr} {p : Addr} {H H' : Hp} (h : Kept (p :: M) H H') (n : H p = none) : Kept M H H' := fun b o e nb => h b o e fun z => by
  rcases List.mem_cons.mp z with rfl | z
  · rw [n] at e; cases e
  · exact nb z
theorem Kept.at {M : List Addr} {H H' : Hp} (h : Kept M H H') {p : Addr} {o : HO} (e : H p = some o) (n : p ∉ M) : H' p = some o := h p o e n
theorem msk_same {M : List Addr} {H H' : Hp} (h : Kept M H H') : Same (msk M H) (msk M H') := fun p o e => by
  unfold msk at e ⊢
  by_cases hp : p ∈ M
  · rw [if_pos hp] at e; cases e
  · rw [if_neg hp] at e ⊢; exact h p o e hp
theorem msk_sub (M : List Addr) (H : Hp) : Same (msk M H) H := fun p o e => by
  unfold msk at e
  by_cases hp : p ∈ M
  · rw [if_pos hp] at e; cases e
  · rw [if_neg hp] at e; exact e
/-- a new address may be masked, too -/
theorem msk_new {M : List Addr} {H : Hp} {p : Addr} (n : H p = none) : Same (msk M H) (msk (p :: M) H) := fun b o e => by
  have e' := msk_sub M H b o e
  unfold msk at e ⊢
  by_cases hp : b ∈ M
  · rw [if_pos hp] at e; cases e
  · rw [if_neg hp] at e
    rw [if_neg (fun z => by
      rcases List.mem_cons.mp z with rfl | z
      · rw [n] at e; cases e
      · exact hp z)]
    exact e
theorem msk_less {M M' : List Addr} {H : Hp} (s : ∀ p ∈ M', p ∈ M) : Same (msk M H) (msk M' H) := fun p o e => by
  unfold msk at e ⊢
  by_cases hp : p ∈ M
  · rw [if_pos hp] at e; cases e
  · rw [if_neg hp] at e
    rw [if_neg (fun z => hp (s p z))]; exact e

/-! ### data -/
theorem sameT {K : PySem.W.Frag} {H H' : Hp} {a : Addr} {xs : List V} (e : Same H H') (h : SqT K H a xs) : SqT K H' a xs := by
  rcases h with (h | ⟨o, h⟩) | h
  · exact .inl (.inl (e _ _ h))
  · exact .inl (.inr ⟨o, e _ _ h⟩)
  · exact .inr h
mutual
theorem dp_same {K : PySem.W.Frag} {H H' : Hp} (e : Same H H') : ∀ {d : PyData} {v : V}, Dp K H v d → Dp K H' v d
  | _, _, .non => .non
  | _, _, .bl b => .bl b
  | _, _, .int i => .int i
  | _, _, .str x => .str x
  | _, _, .lst h a => .lst (e.seq h) (dpAll_same e a)
  | _, _, .tup h a => .tup (sameT e h) (dpAll_same e a)
theorem dpAll_same {K : PySem.W.Frag} {H H' : Hp} (e : Same H H') : ∀ {ds : List PyData} {vs : List V}, DpAll K H vs ds → DpAll K H' vs ds
  | _, _, .nil => .nil
  | _, _, .cons h t => .cons (dp_same e h) (dpAll_same e t)
end
theorem dpAll_len {K : PySem.W.Frag} {H : Hp} : ∀ {ds : List PyData} {vs : List V}, DpAll K H vs ds → vs.length = ds.length
  | _, _, .nil => rfl
  | _, _, .cons _ t => congrArg (· + 1) (dpAll_len t)
theorem dpAll_get {K : PySem.W.Frag} {H : Hp} : ∀ {ds : List PyData} {vs : List V} (i : Nat) {v : V}, DpAll K H vs ds → vs[i]? = some v → ∃ d, ds[i]? = some d ∧ Dp K H v d
  | _, _, _, _, .nil, e => by simp at e
  | _, _, 0, _, .cons h _, e => by simp at e; subst e; exact ⟨_, rfl, h⟩
  | _, _, i + 1, v, .cons _ t, e => by
    obtain ⟨d, h1, h2⟩ := dpAll_get i (v := v) t (by simpa using e)
    exact ⟨d, by simpa using h1, h2⟩
theorem dpAll_app {K : PySem.W.Frag} {H : Hp} : ∀ {ds es : List PyData} {vs us : List V}, DpAll K H vs ds → DpAll K H us es → DpAll K H (vs ++ us) (ds ++ es)
  | _, _, _, _, .nil, s => s
  | _, _, _, _, .cons h t, s => .cons h (dpAll_app t s)
theorem dpAll_snoc {K : PySem.W.Frag} {H : Hp} {ds : List PyData} {d : PyData} {vs : List V} {v : V} (a : DpAll K H vs ds) (h : Dp K H v d) : DpAll K H (vs ++ [v]) (ds ++ [d]) := dpAll_app a (.cons h .nil)

/-! ### the state of the draws -/
def kCells : Key := Sum.inr "cells"
def kTurn : Key := Sum.inr "turn"
theorem kne : ¬ (kCells = kTurn) := by decide +kernel
def stD (c : Addr) (t : Int) : List (Key × V) := [(kCells, .ref c), (kTurn, .int t)]
theorem stD_cells (c : Addr) (t : Int) : valV (stD c t) kCells = some (.ref c) := valV_pos rfl
theorem stD_turn (c : Addr) (t : Int) : valV (stD c t) kTurn = some (.int t) := by
  unfold stD
  rw [valV_neg kne, valV_pos rfl]
theorem stD_put (c : Addr) (t i : Int) : putK (stD c t) kTurn (.int i) = stD c i := by
  have h1 : (decide (kCells = kTurn)) = false := decide_eq_false kne
  have h2 : (decide (kTurn = kTurn)) = true := decide_eq_true rfl
  simp [stD, putK, h1, h2, kne]
/-- a state of draws at s, its cells at c, at most T turns -/
structure StAt (H : Hp) (s c : Addr) (T : Nat) : Prop where
  ex : ∃ t : Int, (0 ≤ t ∧ t ≤ (T : Int)) ∧ H s = some (.dK (stD c t))
  cs : ∃ ns : List Int, 0 < ns.length ∧ ns.length ≤ 63 ∧ H c = some (.lst (ns.map V.int))
theorem StAt.mono {H : Hp} {s c : Addr} {T T' : Nat} (h : StAt H s c T) (l : T ≤ T') : StAt H s c T' := ⟨let ⟨t, a, b⟩ := h.ex; ⟨t, ⟨a.1, by omega⟩, b⟩, h.cs⟩
theorem StAt.ne {H : Hp} {s c : Addr} {T : Nat} (h : StAt H s c T) : s ≠ c := by
  obtain ⟨t, _, e⟩ := h.ex
  obtain ⟨ns, _, _, e2⟩ := h.cs
  exact ne_of e e2 (by intro z; cases z)
theorem StAt.same {H H' : Hp} {s c : Addr} {T : Nat} (h : StAt H s c T) (e : Same H H') : StAt H' s c T :=
  ⟨let ⟨t, a, b⟩ := h.ex; ⟨t, a, e _ _ b⟩, let ⟨ns, a, b, q⟩ := h.cs; ⟨ns, a, b, e _ _ q⟩⟩
theorem StAt.nes {H : Hp} {s c p : Addr} {T : Nat} (h : StAt H s c T) (n : H p = none) : s ≠ p := let ⟨_, _, b⟩ := h.ex; ne_of_none b n
theorem StAt.nec {H : Hp} {s c p : Addr} {T : Nat} (h : StAt H s c T) (n : H p = none) : c ≠ p := let ⟨_, _, _, b⟩ := h.cs; ne_of_none b n
theorem StAt.upd {H : Hp} {s c p : Addr} {T : Nat} {o : HO} (h : StAt H s c T) (h1 : s ≠ p) (h2 : c ≠ p) : StAt (upd H p o) s c T :=
  ⟨let ⟨t, a, b⟩ := h.ex; ⟨t, a, by rw [upd_ne h1]; exact b⟩, let ⟨ns, a, b, q⟩ := h.cs; ⟨ns, a, b, by rw [upd_ne h2]; exact q⟩⟩
theorem StAt.upd_new {H : Hp} {s c p : Addr} {T : Nat} {o : HO} (h : StAt H s c T) (n : H p = none) : StAt (L2.upd H p o) s c T := h.upd (h.nes n) (h.nec n)

theorem Kept.seqL {M : List Addr} {H H' : Hp} (h : Kept M H H') {K : PySem.W.Frag} {p : Addr} {xs : List V} (n : p ∉ M) (q : SqL K H p xs) : SqL K H' p xs := by
  rcases q with (q | ⟨o, q⟩) | q
  · exact .inl (.inl (h _ _ q n))
  · exact .inl (.inr ⟨o, h _ _ q n⟩)
  · exact .inr q
theorem Kept.seqT {M : List Addr} {H H' : Hp} (h : Kept M H H') {K : PySem.W.Frag} {p : Addr} {xs : List V} (n : p ∉ M) (q : SqT K H p xs) : SqT K H' p xs := by
  rcases q with (q | ⟨o, q⟩) | q
  · exact .inl (.inl (h _ _ q n))
  · exact .inl (.inr ⟨o, h _ _ q n⟩)
  · exact .inr q
theorem same_upd {H : Hp} {p : Addr} {o : HO} (h : H p = none) : Same H (upd H p o) := fun b x e => by
  rw [upd_ne (ne_of_none e h)]
  exact e

/-! ### what the draws promise -/
def spBegin (K : PySem.W.Frag) : Sp := fun vs H Q _ => ∃ (a : Addr) (ns : List Int), vs = [.ref a] ∧ SqL K H a (ns.map V.int) ∧
  ∀ (s c : Addr) (H' : Hp), StAt H' s c 0 → H s = none → H c = none → Same H H' → Q (.ref s) H'
def spTake : Sp := fun vs H Q _ => ∃ (s c : Addr) (T : Nat) (m : Int), vs = [.ref s, .int m] ∧ StAt H s c T ∧ T ≤ 1000000 ∧ 0 < m ∧ m < 2 ^ 62 ∧
  ∀ (d : Int) (H' : Hp), 0 ≤ d → d < m → StAt H' s c (T + 1) → Kept [s, c] H H' → Q (.int d) H'
end TT

set_option Elab.async false
set_option linter.all false
set_option maxRecDepth 100000
namespace TT
open PySem PySem.Spec PyProof.Rows L2
def topS (i : Nat) : Stmt := PySem.Challenge.pw_tiedtables_k03_places_fallbacks_ties_fou.main.body.getD i (.Pass ⟨0, 0, 0, 0⟩)
section
variable {P : Program} {w : World} {K : PySem.W.Frag} {mg : Str → Option Value} {base : Heap}
abbrev s_law_begin : Stmt := topS 12
abbrev N_law_begin : List Str := ["script", "cells"]
theorem sc_law_begin : FnScope N_law_begin ["script"] (defScope s_law_begin) := ⟨rfl, rfl, rfl, by decide +kernel, rfl, by decide +kernel, by decide +kernel⟩

theorem cut63 (ns : List Int) : cutV (ns.map V.int) none (some 63) = (ns.take 63).map V.int := by
  unfold cutV
  rw [show HT.sIx (ns.map V.int).length 0 none = 0 from HT.sIx_none .., show HT.sIx (ns.map V.int).length (ns.map V.int).length (some 63) = min 63 (ns.map V.int).length from HT.sIx_nat _ _ 63]
  rw [List.drop_zero, Nat.sub_zero, List.map_take]
  by_cases h : 63 ≤ (ns.map V.int).length
  · rw [Nat.min_eq_left h]
  · rw [Nat.min_eq_right (by omega), List.take_of_length_le (Nat.le_refl _), List.take_of_length_le (by omega)]
theorem dp_ints {K : PySem.W.Frag} {H : Hp} : ∀ ns : List Int, DpAll K H (ns.map V.int) (ns.map PyData.int)
  | [] => .nil
  | n :: ns => .cons (.int n) (dp_ints ns)
theorem canLay_ints : ∀ ns : List Int, PyData.canLayAll0 (ns.map PyData.int) = true
  | [] => rfl
  | _ :: ns => by
    show (PyData.canLay0 (.int _) && PyData.canLayAll0 (ns.map PyData.int)) = true
    rw [canLay_ints ns]
    rfl
theorem depth_ints : ∀ ns : List Int, PyData.depthAll (ns.map PyData.int) = 0
  | [] => rfl
  | _ :: ns => by
    show max 0 (PyData.depthAll (ns.map PyData.int)) = 0
    rw [depth_ints ns]
    rfl
theorem shaped_ints (ns : List Int) : SeqAt.shaped (.list (ns.map PyData.int)) = true := by
  show (PyData.canLayAll0 (ns.map PyData.int) && decide (PyData.depthAll (ns.map PyData.int) + 1 ≤ 64)) = true
  rw [canLay_ints, depth_ints]
  rfl
theorem mkSt (c : Addr) : mergeK [] [(kCells, V.ref c), (kTurn, V.int 0)] = stD c 0 := by
  have h1 : ¬ (kCells = kTurn) := kne
  unfold stD mergeK
  simp [putK, h1]
theorem ok_begin {f : Addr} {fd : FuncData} (F : Fun K "_law_begin" "_law_begin" s_law_begin f fd) (nb : NB mg) : FnOk P w K mg base CX0 1 f fd ["script"] (spBegin K) := by
  refine F.ok sc_law_begin (fun vs H Q E h => ?_) (fun cdv A outer s H vs Q E hr h => ?_)
  · obtain ⟨a, ns, rfl, _⟩ := h
    rfl
  · obtain ⟨a, ns, rfl, hS, q⟩ := h
    have nd := sc_law_begin.nd
    have hu := hu_of hr
    refine ⟨_, (pss_cons (ps_set (i := 1) nd rfl (Or.inl rfl) (pe_callTy call_list_of (by rfl) nb.b_list (by decide +kernel) (pa_cons (pe_slice sl_list (pv 0) po_none (po_some pe_int)) pa_nil)))
      (pss_cons (ps_if (pt_cmpR (op_eqD hr.units) (pv 1) (pe_lst pa_nil) (nomark _))
        (pss_one (ps_set (i := 1) nd rfl (Or.inl rfl) (pe_lst (pa_cons pe_int pa_nil))))
        pss_nil)
      (pss_one (ps_ret (pe_disp (pps_cons pe_str (pv 1) (pps_cons pe_str pe_int pps_nil)) (by rfl) (by rfl) (fun z => by cases z) (by decide)))))), ?_⟩
    -- cells = list(script[:63])
    refine ⟨.ref a, rfl, 63, rfl, a, _, rfl, hS, fun p np => ?_⟩
    rw [cut63]
    refine ⟨p, _, rfl, .inl (.inl (.inl upd_same)), fun c0 nc0 => ?_⟩
    have s1 : Same H (upd H p (.lst ((ns.take 63).map V.int))) := same_upd np
    have s2 : Same (upd H p (.lst ((ns.take 63).map V.int))) (upd (upd H p (.lst ((ns.take 63).map V.int))) c0 (.lst ((ns.take 63).map V.int))) := same_upd nc0
    -- if cells == []
    refine ⟨.ref c0, rfl, Nat.zero_le _, fun e0 ne0 => ?_⟩
    have s3 := same_upd (o := .lst []) ne0
    refine ⟨.list ((ns.take 63).map PyData.int), .list [], .lst (.inl (.inl (s3 _ _ upd_same))) (dp_ints _), .lst (.inl (.inl upd_same)) .nil, shaped_ints _, rfl, _, rfl, ?_⟩
    have fin : ∀ (c : Addr) (H1 : Hp) (ms : List Int), Same H H1 → H c = none → H1 c = some (.lst (ms.map V.int)) → 0 < ms.length → ms.length ≤ 63 →
        tRet (tDisp [(tC (V.str (Str.ofString "cells")), tVar 1), (tC (V.str (Str.ofString "turn")), tC (V.int 0))]) { nx := fun x H' => Q V.non H', rt := Q } [some (.ref a), some (.ref c)] H1 := by
      intro c H1 ms sm nc ec h1 h2 s ns'
      refine ⟨.ref c, rfl, ?_⟩
      refine ⟨upd_same, [(kCells, .ref c), (kTurn, .int 0)], rfl, (by show 2 ≤ 15; decide), ?_⟩
      rw [mkSt, upd_upd]
      have ncs : c ≠ s := ne_of_none ec ns'
      exact q s c _ ⟨⟨0, ⟨Int.le_refl _, Int.le_refl _⟩, upd_same⟩, ⟨ms, h1, h2, by rw [upd_ne ncs]; exact ec⟩⟩ (Same.free sm ns') nc (sm.trans (same_upd ns'))
    refine ite2 (fun h0 => ?_) (fun h0 => ?_)
    · -- cells = [17]
      refine ⟨by decide, fun c1 nc1 => ?_⟩
      exact fin c1 _ [17] (((s1.trans s2).trans s3).trans (same_upd nc1)) (Same.free ((s1.trans s2).trans s3) nc1) upd_same (by decide) (by decide)
    · refine fin c0 _ (ns.take 63) ((s1.trans s2).trans s3) (Same.free s1 nc0) (s3 _ _ upd_same) ?_ (by rw [List.length_take]; omega)
      cases e : ns.take 63 with
      | nil => rw [e] at h0; exact absurd rfl h0
      | cons x r => exact Nat.succ_pos _
abbrev s_law_take : Stmt := topS 13
abbrev N_law_take : List Str := ["state", "many", "turn", "place", "cell", "digit", "wide", "mixed"]
theorem sc_law_take : FnScope N_law_take ["state", "many"] (defScope s_law_take) := ⟨rfl, rfl, rfl, by decide +kernel, rfl, by decide +kernel, by decide +kernel⟩

theorem cdiv_of {i j : Int} (h : 0 < j) (h2 : j < 2 ^ 62) : CDivP i j := ⟨h, PyProof.noPylong_of_log2 (Nat.lt_of_lt_of_le (PySem.Flt.log2_lt_of (k := 62) (by decide) (by omega)) (by decide))⟩
theorem ixN_nat {n j : Nat} (h : j < n) : ixN n (j : Int) = some j := by
  unfold ixN
  rw [if_pos (Int.natCast_nonneg j), if_pos (by omega)]
  rfl
theorem ok_take {f : Addr} {fd : FuncData} (F : Fun K "_law_take" "_law_take" s_law_take f fd) (nb : NB mg) : FnOk P w K mg base CX0 1 f fd ["state", "many"] spTake := by
  refine F.ok sc_law_take (fun vs H Q E h => ?_) (fun cdv A outer sh H vs Q E hr h => ?_)
  · obtain ⟨s, c, T, m, rfl, _⟩ := h
    rfl
  · obtain ⟨s, c, T, m, rfl, S, hT, hm0, hm, q⟩ := h
    have nd := sc_law_take.nd
    have hu := hu_of hr
    obtain ⟨⟨t, ⟨ht0, ht⟩, es⟩, ⟨ns, l0, l63, ec⟩⟩ := id S
    have nsc : s ≠ c := S.ne
    refine ⟨_, (pss_cons (ps_set (i := 2) nd rfl (Or.inl rfl) (pe_op op_add (pe_dget hu (pv 0) pe_str (fun _ _ => rfl)) pe_int))
      (pss_cons (ps_dput hu (pv 0) pe_str (pv 2) rfl)
      (pss_cons (ps_set (i := 3) nd rfl (Or.inl rfl) (pe_op op_mod (pv 2) (pe_callB call_len_seq (by rfl) nb.b_len (by decide +kernel) (pa_cons (pe_dget hu (pv 0) pe_str (fun _ _ => rfl)) pa_nil))))
      (pss_cons (ps_set (i := 4) nd rfl (Or.inl rfl) (pe_ix ix_list (pe_dget hu (pv 0) pe_str (fun _ _ => rfl)) (pv 3) (fun _ _ => rfl)))
      (pss_cons (ps_if (pt_cmpR op_ge (pv 4) (pe_op op_pow pe_int pe_int) (nomark _))
        (pss_cons (ps_asg (pe_callB call_divmodW (by rfl) nb.b_divmod (by decide +kernel) (pa_cons (pv 4) (pa_cons (pv 1) pa_nil))) (pg_tup rfl (pgs_cons (pg_sub (pe_dget hu (pv 0) pe_str (fun _ _ => rfl)) (pv 3) set_list) (pgs_cons (pg_name (i := 5) nd rfl (Or.inl rfl)) pgs_nil))))
        (pss_one (ps_ret (pv 5))))
        pss_nil)
      (pss_cons (ps_set (i := 6) nd rfl (Or.inl rfl) (pe_op op_add (pe_op op_mod (pv 4) pe_int) (pe_op op_mul (pe_op op_mod (pe_op op_fdivW (pv 4) pe_int) pe_int) pe_int)))
      (pss_cons (ps_set (i := 7) nd rfl (Or.inl rfl) (pe_op op_mod (pe_op op_mul (pe_op op_add (pe_op op_add (pv 6) (pe_op op_mul (pe_op op_mul (pv 2) (pv 2)) pe_int)) pe_int) pe_int) pe_int))
      (pss_cons (ps_set (i := 7) nd rfl (Or.inl rfl) (pe_op op_mod (pe_op op_mul (pv 7) (pv 7)) pe_int))
      (pss_one (ps_ret (pe_op op_mod (pe_op op_fdivW (pe_op op_mod (pe_op op_mul (pe_op op_add (pv 7) (pe_op op_mul (pv 2) pe_int)) pe_int) pe_int) pe_int) (pv 1)))))))))))), ?_⟩
    -- turn = state['turn'] + 1; state['turn'] = turn
    refine ⟨.ref s, rfl, s, _, rfl, stD_turn c t ▸ DGet.k (k := kTurn) es, _, _, rfl, rfl, ?_⟩
    refine ⟨_, rfl, .ref s, rfl, s, _, rfl, DPut.k (k := kTurn) es (by show 2 < sizeLine; decide), ?_⟩
    rw [stD_put]
    have es1 : (upd H s (.dK (stD c (t + 1)))) s = some (.dK (stD c (t + 1))) := upd_same
    have ec1 : (upd H s (.dK (stD c (t + 1)))) c = some (.lst (ns.map V.int)) := by rw [upd_ne nsc.symm]; exact ec
    have S1 : StAt (upd H s (.dK (stD c (t + 1)))) s c (T + 1) := ⟨⟨t + 1, ⟨by omega, by omega⟩, es1⟩, ⟨ns, l0, l63, ec1⟩⟩
    have K1 : Kept [s, c] H (upd H s (.dK (stD c (t + 1)))) := Kept.upd_in (List.mem_cons_self ..)
    generalize hH1 : upd H s (.dK (stD c (t + 1))) = H1 at es1 ec1 S1 K1
    have gc1 : DGet H1 s (.str "cells") (some (.ref c)) := stD_cells c (t + 1) ▸ DGet.k (k := kCells) es1
    have lm : (ns.map V.int).length = ns.length := List.length_map ..
    -- place = turn % len(state['cells'])
    refine ⟨_, rfl, .ref s, rfl, s, _, rfl, gc1, c, _, rfl, .inl (.inl (.inl ec1)), _, _, rfl, rfl, (by rw [lm]; omega), ?_⟩
    rw [lm]
    dsimp only
    generalize hpl : (t + 1) % (ns.length : Int) = pl
    have hp0 : 0 ≤ pl := by rw [← hpl]; exact Int.emod_nonneg _ (by omega)
    have hp1 : pl < ns.length := by rw [← hpl]; exact Int.emod_lt_of_pos _ (by omega)
    -- cell = state['cells'][place]
    obtain ⟨j, rfl⟩ : ∃ j : Nat, pl = (j : Int) := ⟨pl.toNat, by omega⟩
    have hj : j < ns.length := by omega
    have gj : (ns.map V.int)[j]? = some (.int ns[j]) := by rw [List.getElem?_map, List.getElem?_eq_getElem hj]; rfl
    refine ⟨.ref s, rfl, s, _, rfl, gc1, _, rfl, c, _, _, .int ns[j], rfl, rfl, .inl (.inl ec1), atI_nat gj, ?_⟩
    generalize ns[j] = x
    -- if cell >= 10 ** 18
    refine ⟨.int x, rfl, 10, 18, rfl, rfl, ⟨by decide, by decide, by decide⟩, _, _, rfl, rfl, _, rfl, ite2 (fun hc => ?_) (fun _ => ?_)⟩
    · -- state['cells'][place], digit = divmod(cell, many)
      refine ⟨.int x, rfl, .int m, rfl, _, _, rfl, cdiv_of hm0 hm, fun p np => ?_⟩
      have nps : s ≠ p := ne_of_none es1 np
      have npc : c ≠ p := ne_of_none ec1 np
      have es2 : (upd H1 p (.tup [.int (x / m), .int (x % m)])) s = some (.dK (stD c (t + 1))) := by rw [upd_ne nps]; exact es1
      have ec2 : (upd H1 p (.tup [.int (x / m), .int (x % m)])) c = some (.lst (ns.map V.int)) := by rw [upd_ne npc]; exact ec1
      have gc2 : DGet (upd H1 p (.tup [.int (x / m), .int (x % m)])) s (.str "cells") (some (.ref c)) := stD_cells c (t + 1) ▸ DGet.k (k := kCells) es2
      refine ⟨p, _, rfl, .inl (.inl upd_same), rfl, .int (x / m), _, rfl, .ref s, rfl, s, _, rfl, gc2, _, rfl, c, _, _, j, rfl, rfl, ec2, by rw [lm]; exact ixN_nat hj, ?_⟩
      refine ⟨.int (x % m), [], rfl, rfl, .int (x % m), rfl, ?_⟩
      have em : ((ns.map V.int).set j (.int (x / m))) = (ns.set j (x / m)).map V.int := by rw [List.map_set]
      rw [em]
      refine q _ _ (Int.emod_nonneg _ (by omega)) (Int.emod_lt_of_pos _ hm0) ⟨⟨t + 1, ⟨by omega, by omega⟩, by rw [upd_ne nsc]; exact es2⟩, ⟨_, by rw [List.length_set]; exact l0, by rw [List.length_set]; exact l63, upd_same⟩⟩ ?_
      exact (K1.trans (Kept.upd_new np)).trans (Kept.upd_in (List.mem_cons_of_mem _ (List.mem_cons_self ..)))
    · have h1 : (0 : Int) ≤ x % 2147483629 ∧ x % 2147483629 < 2147483629 := ⟨Int.emod_nonneg _ (by decide), Int.emod_lt_of_pos _ (by decide)⟩
      have h2 : (0 : Int) ≤ x / 2147483629 % 40009 ∧ x / 2147483629 % 40009 < 40009 := ⟨Int.emod_nonneg _ (by decide), Int.emod_lt_of_pos _ (by decide)⟩
      have ht1 : t + 1 ≤ 1000001 := by omega
      have htt : (t + 1) * (t + 1) ≤ 1000001 * 1000001 := Int.mul_le_mul ht1 ht1 (by omega) (by omega)
      have htt0 : 0 ≤ (t + 1) * (t + 1) := Int.mul_nonneg (by omega) (by omega)
      -- wide
      refine ⟨.int x, rfl, _, _, rfl, rfl, (by decide : (0 : Int) < 2147483629), .int x, rfl, _, _, rfl, rfl, wide_div (b := 32) (by decide) (by decide) (by decide) (by decide), _, _, rfl, rfl, (by decide : (0 : Int) < 40009), _, _, rfl, rfl, .inr ⟨by decide, by decide⟩, _, _, rfl, rfl, ?_⟩
      dsimp only
      generalize hw : x % 2147483629 + x / 2147483629 % 40009 * 977 = wd
      have hw0 : 0 ≤ wd := by omega
      have hw1 : wd < 2 ^ 32 := by omega
      -- mixed
      refine ⟨.int wd, rfl, .int (t + 1), rfl, .int (t + 1), rfl, _, _, rfl, rfl, .inl ⟨by omega, by omega⟩, _, _, rfl, rfl, .inr ⟨by decide, by decide⟩, _, _, rfl, rfl, _, _, rfl, rfl, _, _, rfl, rfl, .inr ⟨by decide, by decide⟩, _, _, rfl, rfl, (by decide : (0 : Int) < 2147483647), ?_⟩
      dsimp only
      generalize hx1 : (wd + (t + 1) * (t + 1) * 6007 + 29) * 48271 % 2147483647 = x1
      have hx1a : 0 ≤ x1 ∧ x1 < 2147483647 := by rw [← hx1]; exact ⟨Int.emod_nonneg _ (by decide), Int.emod_lt_of_pos _ (by decide)⟩
      refine ⟨.int x1, rfl, .int x1, rfl, _, _, rfl, rfl, .inl ⟨by omega, by omega⟩, _, _, rfl, rfl, (by decide : (0 : Int) < 2147483579), ?_⟩
      dsimp only
      generalize hx2 : x1 * x1 % 2147483579 = x2
      have hx2a : 0 ≤ x2 ∧ x2 < 2147483579 := by rw [← hx2]; exact ⟨Int.emod_nonneg _ (by decide), Int.emod_lt_of_pos _ (by decide)⟩
      refine ⟨.int x2, rfl, .int (t + 1), rfl, _, _, rfl, rfl, .inr ⟨by decide, by decide⟩, _, _, rfl, rfl, _, _, rfl, rfl, .inr ⟨by decide, by decide⟩, _, _, rfl, rfl, (by decide : (0 : Int) < 2147483629), _, _, rfl, rfl, wide_div (b := 8) (by decide) (by decide) (by decide) (by decide), .int m, rfl, _, _, rfl, rfl, hm0, ?_⟩
      exact q _ _ (Int.emod_nonneg _ (by omega)) (Int.emod_lt_of_pos _ hm0) S1 K1
theorem take_at {H : Hp} {s c : Addr} {T : Nat} {m : Int} {Q : VK} {E : XK} (S : StAt H s c T) (hT : T ≤ 1000000) (h0 : 0 < m) (h1 : m < 2 ^ 62)
    (q : ∀ (d : Int) (H' : Hp), 0 ≤ d → d < m → StAt H' s c (T + 1) → Kept [s, c] H H' → Q (.int d) H') : spTake [.ref s, .int m] H Q E := ⟨s, c, T, m, rfl, S, hT, h0, h1, q⟩
def spSome (K : PySem.W.Frag) : Sp := fun vs H Q _ => ∃ (s c p : Addr) (T : Nat) (xs : List V), vs = [.ref s, .ref p] ∧ StAt H s c T ∧ T ≤ 1000000 ∧ p ∉ [s, c] ∧ (SqL K H p xs ∨ SqT K H p xs) ∧ 0 < xs.length ∧ xs.length < 2 ^ 62 ∧
  ∀ (j : Nat) (v : V) (H' : Hp), xs[j]? = some v → StAt H' s c (T + 1) → Kept [s, c] H H' → Q v H'
abbrev s_law_some : Stmt := topS 14
abbrev N_law_some : List Str := ["state", "things"]
theorem sc_law_some : FnScope N_law_some ["state", "things"] (defScope s_law_some) := ⟨rfl, rfl, rfl, by decide +kernel, rfl, by decide +kernel, by decide +kernel⟩

theorem ok_some {f : Addr} {fd : FuncData} (F : Fun K "_law_some" "_law_some" s_law_some f fd) (nb : NB mg) (D_law_take : Def P w K mg base 1 "_law_take" ["state", "many"] spTake) : FnOk P w K mg base CX0 2 f fd ["state", "things"] (spSome K) := by
  refine F.ok sc_law_some (fun vs H Q E h => ?_) (fun cdv A outer sh H vs Q E hr h => ?_)
  · obtain ⟨s, c, p, T, xs, rfl, _⟩ := h
    rfl
  · obtain ⟨s, c, p, T, xs, rfl, S, hT, hp, hx, l0, l1, q⟩ := h
    have nd := sc_law_some.nd
    have hu := hu_of hr
    refine ⟨_, (pss_one (ps_ret (pe_ix ix_seq (pv 1) (pe_own D_law_take hr (pa_cons (pv 0) (pa_cons (pe_callB call_len (by rfl) nb.b_len (by decide +kernel) (pa_cons (pv 1) pa_nil)) pa_nil))) (fun _ _ => rfl)))), ?_⟩
    refine ⟨.ref p, rfl, .ref s, rfl, .ref p, rfl, .ref p, xs.length, rfl, ?_, s, c, T, _, rfl, S, hT, by omega, by omega, fun d H1 h0 h1 S1 K1 => ?_⟩
    · rcases hx with hx | hx
      · exact .inl ⟨xs, hx, rfl⟩
      · exact .inr ⟨xs, hx, rfl⟩
    · obtain ⟨j, rfl⟩ : ∃ j : Nat, d = (j : Int) := ⟨d.toNat, by omega⟩
      have hj : j < xs.length := by omega
      have gj : xs[j]? = some xs[j] := List.getElem?_eq_getElem hj
      rcases hx with hx | hx
      · exact .inl ⟨p, xs, _, _, rfl, rfl, K1.seqL hp hx, atI_nat gj, q j _ H1 gj S1 K1⟩
      · exact .inr (.inl ⟨p, xs, _, _, rfl, rfl, K1.seqT hp hx, atI_nat gj, q j _ H1 gj S1 K1⟩)
end
end TT

set_option Elab.async false
set_option linter.all false
set_option maxRecDepth 100000
namespace TT
open PySem PySem.Spec PyProof.Rows L2
/-! ### names: the mathematics -/
def cl (z : Str) : List Nat := z.cps.toList
def ofL (l : List Nat) : Str := ⟨l.toArray⟩
theorem cl_ofL (l : List Nat) : cl (ofL l) = l := rfl
theorem cl_app (a b : Str) : cl (a ++ b) = cl a ++ cl b := by
  show (a.cps ++ b.cps).toList = _
  exact Array.toList_append
theorem cl_inj {a b : Str} (h : cl a = cl b) : a = b := by
  cases a; cases b
  exact congrArg Str.mk (Array.toList_inj.mp h)
theorem ofL_cl (z : Str) : ofL (cl z) = z := cl_inj rfl
theorem cl_len (z : Str) : z.length = (cl z).length := rfl
def low (c : Nat) : Prop := 97 ≤ c ∧ c ≤ 122
structure NameOk (z : Str) : Prop where
  pos : 0 < (cl z).length
  top : (cl z).length ≤ 8
  low : ∀ c ∈ cl z, low c
def abc : Str := "abcdefghijklmnopqrstuvwxyz"
theorem abc_cl : cl abc = (List.range 26).map (· + 97) := by decide +kernel
theorem abc_at {i : Nat} (h : i < 26) : (cl abc)[i]? = some (i + 97) := by
  rw [abc_cl, List.getElem?_map, List.getElem?_range h]
  rfl
def words13 : List Str := ["table", "row", "many", "store", "old", "new", "put", "none", "tie", "drop", "set", "do", "to"]
theorem words_ok : ∀ z ∈ words13, NameOk z := by
  have h : words13.all (fun z => decide (0 < (cl z).length) && decide ((cl z).length ≤ 8) && (cl z).all fun c => decide (97 ≤ c) && decide (c ≤ 122)) = true := by decide +kernel
  intro z hz
  have h1 := List.all_eq_true.mp h z hz
  simp only [Bool.and_eq_true, decide_eq_true_eq, List.all_eq_true] at h1
  exact ⟨h1.1.1, h1.1.2, h1.2⟩
theorem words_nd : words13.Nodup := by decide +kernel
theorem words_len : words13.length = 13 := rfl
/-- the k-th plain name -/
def letterOf (first step : Int) (k : Nat) : Nat := ((first + step * k) % 26).toNat + 97
def plainN (st : List Nat) (at' : Nat) (first step short : Int) (k : Nat) : Str :=
  ofL (st.take at' ++ [letterOf first step k] ++ (if short = 0 then st.drop at' else (st.drop at').take (k % 3)))
theorem letterOf_low (first step : Int) (k : Nat) : low (letterOf first step k) := by
  have h1 := Int.emod_nonneg (first + step * k) (show (26 : Int) ≠ 0 by decide)
  have h2 := Int.emod_lt_of_pos (first + step * k) (show (0 : Int) < 26 by decide)
  unfold low letterOf
  omega
theorem plain_ok {st : List Nat} {at' : Nat} {first step short : Int} {k : Nat} (hs : ∀ c ∈ st, low c) (hl : st.length ≤ 7) : NameOk (plainN st at' first step short k) := by
  have e : (cl (plainN st at' first step short k)) = st.take at' ++ [letterOf first step k] ++ (if short = 0 then st.drop at' else (st.drop at').take (k % 3)) := rfl
  refine ⟨?_, ?_, ?_⟩
  · rw [e]; simp; omega
  · rw [e, List.length_append, List.length_append, List.length_take, List.length_singleton]
    split
    · rw [List.length_drop]; omega
    · rw [List.length_take, List.length_drop]; omega
  · rw [e]
    intro c hc
    rw [List.mem_append, List.mem_append, List.mem_singleton] at hc
    rcases hc with (h | h) | h
    · exact hs c (List.mem_of_mem_take h)
    · rw [h]; exact letterOf_low ..
    · split at h
      · exact hs c (List.mem_of_mem_drop h)
      · exact hs c (List.mem_of_mem_drop (List.mem_of_mem_take h))
theorem plain_inj {st : List Nat} {at' : Nat} {first step short : Int} {i j : Nat} (ha : at' ≤ st.length) (hs : step = 3 ∨ step = 5 ∨ step = 25) (hi : i < 26) (hj : j < 26) (e : plainN st at' first step short i = plainN st at' first step short j) : i = j := by
  have e1 := congrArg cl e
  have e2 : (cl (plainN st at' first step short i))[at']? = (cl (plainN st at' first step short j))[at']? := by rw [e1]
  have key : ∀ k, (cl (plainN st at' first step short k))[at']? = some (letterOf first step k) := fun k => by
    show (st.take at' ++ [letterOf first step k] ++ (if short = 0 then st.drop at' else (st.drop at').take (k % 3)))[at']? = _
    rw [List.append_assoc, List.getElem?_append_right (by rw [List.length_take]; omega), List.length_take, Nat.min_eq_left ha, Nat.sub_self]
    rfl
  rw [key, key] at e2
  have e3 := Option.some.inj e2
  unfold letterOf at e3
  rcases hs with rfl | rfl | rfl <;> omega
theorem str_len_app (a b : Str) : (a ++ b).length = a.length + b.length := by rw [cl_len, cl_app, List.length_append]; rfl
theorem cut_cl (z : Str) (lo hi : Option Int) : cl (cutS z lo hi) = ((cl z).drop (HT.sIx z.length 0 lo)).take (HT.sIx z.length z.length hi - HT.sIx z.length 0 lo) := rfl
def wordAt (first : Int) (k : Nat) : Str := words13.getD ((first + k) % 13).toNat Str.empty
theorem wordAt_get (first : Int) (k : Nat) : words13[((first + k) % 13).toNat]? = some (wordAt first k) := by
  have g0 := Int.emod_nonneg (first + k) (show (13 : Int) ≠ 0 by decide)
  have g1 := Int.emod_lt_of_pos (first + k) (show (0 : Int) < 13 by decide)
  have h : ((first + k) % 13).toNat < words13.length := by rw [words_len]; omega
  unfold wordAt
  rw [List.getD_eq_getElem?_getD, List.getElem?_eq_getElem h]
  rfl
theorem wordAt_mem (first : Int) (k : Nat) : wordAt first k ∈ words13 := List.mem_of_getElem? (wordAt_get first k)
theorem wordAt_inj {first : Int} {i j : Nat} (hi : i < 13) (hj : j < 13) (e : wordAt first i = wordAt first j) : i = j := by
  have g0 := Int.emod_nonneg (first + i) (show (13 : Int) ≠ 0 by decide)
  have g1 := Int.emod_lt_of_pos (first + i) (show (0 : Int) < 13 by decide)
  have g2 := Int.emod_nonneg (first + j) (show (13 : Int) ≠ 0 by decide)
  have g3 := Int.emod_lt_of_pos (first + j) (show (0 : Int) < 13 by decide)
  have h1 := wordAt_get first i
  have h2 := wordAt_get first j
  rw [e] at h1
  have h3 := (List.getElem?_inj (by rw [words_len]; omega) words_nd).mp (h1.trans h2.symm)
  omega
/-- the names, some of them words: the k first ones have been gone through -/
structure Mixed (first : Int) (ps : List Str) (k : Nat) (fs : List Str) : Prop where
  len : fs.length = ps.length
  it : ∀ (i : Nat) (z : Str), fs[i]? = some z → ps[i]? = some z ∨ (i < k ∧ z = wordAt first i ∧ z ∉ ps)
theorem mixed_start (first : Int) {ps : List Str} (_ : ps.Nodup) (_ : ∀ z ∈ ps, NameOk z) : Mixed first ps 0 ps := ⟨rfl, fun _ _ h => .inl h⟩
theorem Mixed.skip {first : Int} {ps fs : List Str} {k : Nat} (h : Mixed first ps k fs) : Mixed first ps (k + 1) fs :=
  ⟨h.len, fun i z e => (h.it i z e).imp id fun q => ⟨by omega, q.2⟩⟩
theorem Mixed.put {first : Int} {ps fs : List Str} {k : Nat} (h : Mixed first ps k fs) (hn : wordAt first k ∉ ps) (_ : k < 13) : Mixed first ps (k + 1) (fs.set k (wordAt first k)) :=
  ⟨by rw [List.length_set]; exact h.len, fun i z e => by
    rw [List.getElem?_set] at e
    split at e
    · rename_i hk
      split at e
      · cases e; subst hk; exact .inr ⟨by omega, rfl, hn⟩
      · cases e
    · exact (h.it i z e).imp id fun q => ⟨by omega, q.2⟩⟩
theorem Mixed.ok {first : Int} {ps fs : List Str} {k : Nat} (h : Mixed first ps k fs) (ok : ∀ z ∈ ps, NameOk z) : ∀ z ∈ fs, NameOk z := by
  intro z hz
  obtain ⟨i, hi⟩ := List.getElem?_of_mem hz
  rcases h.it i z hi with q | ⟨_, rfl, _⟩
  · exact ok z (List.mem_of_getElem? q)
  · exact words_ok _ (wordAt_mem ..)
theorem Mixed.nodup {first : Int} {ps fs : List Str} {k : Nat} (h : Mixed first ps k fs) (nd : ps.Nodup) (hk : k ≤ 13) : fs.Nodup := by
  rw [List.nodup_iff_pairwise_ne, List.pairwise_iff_getElem]
  intro i j hi hj hij e3
  have e1 := List.getElem?_eq_getElem hi
  have e2 := List.getElem?_eq_getElem hj
  rcases h.it i _ e1 with q1 | ⟨k1, w1, n1⟩ <;> rcases h.it j _ e2 with q2 | ⟨k2, w2, n2⟩
  · rw [e3] at q1
    have := (List.getElem?_inj (by rw [← h.len]; exact hi) nd).mp (q1.trans q2.symm)
    omega
  · rw [← e3] at n2
    exact n2 (List.mem_of_getElem? q1)
  · rw [e3] at n1
    exact n1 (List.mem_of_getElem? q2)
  · have := wordAt_inj (by omega) (by omega) (w1.symm.trans (e3.trans w2))
    omega
theorem flat_strs : ∀ zs : List Str, (zs.map V.str).all flatV = true
  | [] => rfl
  | _ :: zs => flat_strs zs
theorem inV_strs (z : Str) (zs : List Str) : inV (.str z) (zs.map V.str) = decide (z ∈ zs) := by
  induction zs with
  | nil => rfl
  | cons y r ih =>
    show (eqV (.str y) (.str z) || inV (.str z) (r.map V.str)) = _
    rw [ih]
    show ((y == z) || decide (z ∈ r)) = _
    by_cases h : y = z
    · subst h; simp
    · have h' : ¬ z = y := fun e => h e.symm
      simp [h, h']
def one (c : Nat) : Str := ⟨#[c]⟩
theorem cl_one (c : Nat) : cl (one c) = [c] := rfl
theorem sum_ones : ∀ l : List Nat, (l.map ((fun x : Str => x.length) ∘ one)).sum = l.length
  | [] => rfl
  | _ :: l => by
    rw [List.map_cons, List.sum_cons, sum_ones l]
    show 1 + l.length = l.length + 1
    omega
theorem join_ones (l : List Nat) : cl (Txt.join (Str.ofString "") (l.map one)) = l := by
  rw [TL.join_eq]
  induction l with
  | nil => rfl
  | cons x r ih =>
    cases r with
    | nil => rfl
    | cons y r =>
      show cl (one x ++ Str.ofString "" ++ Str.join (Str.ofString "") ((y :: r).map one)) = _
      rw [cl_app, cl_app, ih]
      rfl
section
variable {P : Program} {w : World} {K : PySem.W.Frag} {mg : Str → Option Value} {base : Heap}
def spNames : Sp := fun vs H Q _ => ∃ (s c : Addr) (T m : Nat), vs = [.ref s, .int m] ∧ StAt H s c T ∧ T + 30 ≤ 1000000 ∧ m ≤ 26 ∧
  ∀ (p : Addr) (zs : List Str) (H' : Hp), zs.length = m → zs.Nodup → (∀ z ∈ zs, NameOk z) → H p = none → H' p = some (.lst (zs.map V.str)) → StAt H' s c (T + 30) → Kept [s, c] H H' → Q (.ref p) H'
theorem Kept.fresh {M : List Addr} {H H' : Hp} (h : Kept M H H') {p : Addr} (n : H' p = none) (hm : ∀ q ∈ M, q ≠ p) : H p = none := by
  cases e : H p with
  | none => rfl
  | some o =>
    have := h p o e fun z => hm p z rfl
    rw [n] at this
    cases this
abbrev s_law_names : Stmt := topS 15
abbrev N_law_names : List Str := ["state", "many", "letters", "first", "way", "stem", "at", "step", "short", "plain", "some", "k", "name", "found", "word", "turn"]
theorem sc_law_names : FnScope N_law_names ["state", "many"] (defScope s_law_names) := ⟨rfl, rfl, rfl, by decide +kernel, rfl, by decide +kernel, by decide +kernel⟩

theorem ok_names {f : Addr} {fd : FuncData} (F : Fun K "_law_names" "_law_names" s_law_names f fd) (nb : NB mg) (D_law_take : Def P w K mg base 1 "_law_take" ["state", "many"] spTake) : FnOk P w K mg base CX0 2 f fd ["state", "many"] spNames := by
  refine F.ok sc_law_names (fun vs H Q E h => ?_) (fun cdv A outer sh H vs Q E hr h => ?_)
  · obtain ⟨s, c, T, m, rfl, _⟩ := h
    rfl
  · obtain ⟨s, c, T, m, rfl, S, hT, hm, q⟩ := h
    have nd := sc_law_names.nd
    have hu := hu_of hr
    refine ⟨_, (pss_cons (ps_asg (pe_tup (pa_cons pe_str (pa_cons (pe_own D_law_take hr (pa_cons (pv 0) (pa_cons pe_int pa_nil))) (pa_cons (pe_own D_law_take hr (pa_cons (pv 0) (pa_cons pe_int pa_nil))) pa_nil)))) (pg_tup rfl (pgs_cons (pg_name (i := 2) nd rfl (Or.inr rfl)) (pgs_cons (pg_name (i := 3) nd rfl (Or.inl rfl)) (pgs_cons (pg_name (i := 4) nd rfl (Or.inl rfl)) pgs_nil)))))
      (pss_cons (ps_set (i := 5) nd rfl (Or.inl rfl) (pe_join pe_str (pe_lc (own := [("turn", 15)]) (g := (gName 15)) (tt := tYes) rfl nd (pi_range1 (by rfl) nb.b_range (pa_cons (pe_own D_law_take hr (pa_cons (pv 0) (pa_cons pe_int pa_nil))) pa_nil)) (blkOk_by (N := N_law_names) (sc := defScope s_law_names) (by decide +kernel)) (fun _ _ _ _ _ => (pg_name (i := 15) nd rfl (Or.inl rfl))) (fun _ _ _ _ _ => pts_nil) (fun _ _ _ _ _ => (pe_item_str (pv 2) (pe_own D_law_take hr (pa_cons (pv 0) (pa_cons pe_int pa_nil))) (fun _ _ => rfl))))))
      (pss_cons (ps_par3 (i := 6) (j := 7) (l := 8) (by rfl) nd rfl rfl rfl (by decide) (by decide) (by decide) rfl rfl rfl (pa_cons (pe_own D_law_take hr (pa_cons (pv 0) (pa_cons (pe_op op_add (pe_callB call_len_str (by rfl) nb.b_len (by decide +kernel) (pa_cons (pv 5) pa_nil)) pe_int) pa_nil))) (pa_cons (pe_ix ix_list (pe_lst (pa_cons pe_int (pa_cons pe_int (pa_cons pe_int pa_nil)))) (pe_own D_law_take hr (pa_cons (pv 0) (pa_cons pe_int pa_nil))) (fun _ _ => rfl)) (pa_cons (pe_own D_law_take hr (pa_cons (pv 0) (pa_cons pe_int pa_nil))) pa_nil))) (by rfl))
      (pss_cons (ps_par (i := 9) (j := 10) (by rfl) nd rfl rfl (by decide) rfl rfl (pa_cons (pe_lst pa_nil) (pa_cons (pe_lst (pa_cons pe_str (pa_cons pe_str (pa_cons pe_str (pa_cons pe_str (pa_cons pe_str (pa_cons pe_str (pa_cons pe_str (pa_cons pe_str (pa_cons pe_str (pa_cons pe_str (pa_cons pe_str (pa_cons pe_str (pa_cons pe_str pa_nil)))))))))))))) pa_nil)) (by rfl))
      (pss_cons (ps_for PassesOwn.never rfl (pi_range1 (by rfl) nb.b_range (pa_cons (pv 1) pa_nil)) (pg_name (i := 11) nd rfl (Or.inl rfl))
        (pss_cons (ps_set (i := 12) nd rfl (Or.inl rfl) (pe_op op_add_str (pe_slice sl_str (pv 5) po_none (po_some (pv 6))) (pe_item_str (pv 2) (pe_op op_mod (pe_op op_add (pv 3) (pe_op op_mul (pv 7) (pv 11))) pe_int) (fun _ _ => rfl))))
        (pss_one (ps_expr (pe_bm PySem.F.plainAttrs_list PySem.F.slot_list_append PySem.F.type_list_append mt_append (pv 9) (pa_cons (pe_op op_add_str (pv 12) (pe_ix ix_list (pe_lst (pa_cons (pe_slice sl_str (pv 5) (po_some (pv 6)) po_none) (pa_cons (pe_slice sl_str (pe_slice sl_str (pv 5) (po_some (pv 6)) po_none) po_none (po_some (pe_op op_mod (pv 11) pe_int))) pa_nil))) (pv 8) (fun _ _ => rfl))) pa_nil))))))
      (pss_cons (ps_set (i := 13) nd rfl (Or.inl rfl) (pe_callTy call_list_of (by rfl) nb.b_list (by decide +kernel) (pa_cons (pv 9) pa_nil)))
      (pss_cons (ps_for PassesOwn.never rfl (pi_range1 (by rfl) nb.b_range (pa_cons (pe_op op_mul (pe_callB (call_min2 rfl) (by rfl) nb.b_min (by decide +kernel) (pa_cons (pv 1) (pa_cons pe_int pa_nil))) (pe_callTy call_int1 (by rfl) nb.b_int (by decide +kernel) (pa_cons (pe_cmpR op_eq (pv 4) pe_int (nomark _)) pa_nil))) pa_nil)) (pg_name (i := 11) nd rfl (Or.inl rfl))
        (pss_cons (ps_set (i := 14) nd rfl (Or.inl rfl) (pe_ix ix_list (pv 10) (pe_op op_mod (pe_op op_add (pv 3) (pv 11)) pe_int) (fun _ _ => rfl)))
        (pss_one (ps_if (PW.pt (pw_and (pt_cmpR op_notIn_seq (pv 14) (pv 9) (by rfl)) (pw_and1 (pt_cmpR op_eq (pe_own D_law_take hr (pa_cons (pv 0) (pa_cons pe_int pa_nil))) pe_int (nomark _)))))
          (pss_one (ps_asg (pv 14) (pg_sub (pv 13) (pv 11) set_list)))
          pss_nil))))
      (pss_one (ps_ret (pv 13)))))))))), ?_⟩
    -- letters, first, way
    refine ⟨.ref s, rfl, s, c, T, _, rfl, S, by omega, by decide, by decide, fun first H1 f0 f1 S1 K1 => ?_⟩
    refine ⟨.ref s, rfl, s, c, T + 1, _, rfl, S1, by omega, by decide, by decide, fun way H2 w0 w1 S2 K2 => ?_⟩
    refine ⟨(by show 3 ≤ sizeLine; decide), fun p2 n2 => ?_⟩
    have S2' := S2.upd_new (o := .tup [.str abc, .int first, .int way]) n2
    have K2' : Kept [s, c] H (upd H2 p2 (.tup [.str abc, .int first, .int way])) := (K1.trans K2).trans (Kept.upd_new n2)
    refine ⟨p2, _, rfl, .inl (.inl upd_same), rfl, _, _, rfl, _, _, rfl, _, _, rfl, rfl, ?_⟩
    -- stem
    refine ⟨⟨_, rfl⟩, .ref s, rfl, s, c, T + 2, _, rfl, S2', by omega, by decide, by decide, fun n H4 n0 n1 S4 K4 => ⟨n, rfl, by omega, by omega, fun D nD => ?_⟩⟩
    have nsD : s ≠ D := S4.nes nD
    have ncD : c ≠ D := S4.nec nD
    refine lc_range (lo := 0) (n := n.toNat) (fun i H' => ∃ l : List Nat, l.length = i ∧ (∀ x ∈ l, low x) ∧ H' D = some (.lst ((l.map one).map V.str)) ∧ StAt H' s c (T + 3 + i) ∧ Kept [D, s, c] H4 H') ⟨[], rfl, fun _ h => absurd h List.not_mem_nil, upd_same, S4.upd_new nD, Kept.upd_in (List.mem_cons_self ..)⟩ (fun i H5 hi hP => ?_) (fun H5 hP => ?_)
    · obtain ⟨l, el, hl, eD, S5, K5⟩ := hP
      refine ⟨rfl, ?_⟩
      unfold tYes
      dsimp only
      refine iteT ?_
      refine ⟨.str abc, rfl, .ref s, rfl, s, c, _, _, rfl, S5, by omega, by decide, by decide, fun d H6 d0 d1 S6 K6 => ?_⟩
      obtain ⟨j, rfl⟩ : ∃ j : Nat, d = (j : Int) := ⟨d.toNat, by omega⟩
      have hj : j < 26 := by omega
      have eD6 : H6 D = some (.lst ((l.map one).map V.str)) := K6 D _ eD (by simp [nsD.symm, ncD.symm])
      refine ⟨abc, (j : Int), j + 97, rfl, rfl, by omega, by omega, ?_, ?_, _, eD6, ?_, l ++ [j + 97], ?_, ?_, ?_, ?_, ?_⟩
      · rw [cl_len, abc_cl]; simp; omega
      · show abc.cps[j]? = _
        rw [← Array.getElem?_toList]; exact abc_at hj
      · rw [List.length_map, List.length_map]; exact small1000 (by omega)
      · rw [List.length_append, el]; rfl
      · intro x hx
        rcases List.mem_append.mp hx with h | h
        · exact hl x h
        · rw [List.mem_singleton.mp h]; unfold low; omega
      · rw [upd_same, List.map_append, List.map_append]; rfl
      · exact S6.upd nsD ncD
      · exact (K5.trans (K6.mono (by intro p hp; exact List.mem_cons_of_mem _ hp))).trans (Kept.upd_in (List.mem_cons_self ..))
    obtain ⟨st, el, hlow, eD, S5, K5⟩ := hP
    refine ⟨_, D, st.map one, rfl, rfl, .inl (.inl (.inl eD)), ?_, ?_⟩
    · rw [List.map_map, sum_ones]
      show st.length + (st.map one).length * 0 ≤ _
      omega
    generalize hz5 : Txt.join (Str.ofString "") (st.map one) = z5
    have c5 : cl z5 = st := by rw [← hz5]; exact join_ones st
    have l5 : z5.length = st.length := by rw [cl_len, c5]
    have st7 : st.length ≤ 7 := by omega
    have S5 : StAt H5 s c (T + 10) := S5.mono (by omega)
    have K5 : Kept [s, c] H H5 := K2'.trans (K4.trans (K5.new nD))
    clear eD hz5 nsD ncD K4 S4 nD n1 n0 el
    -- at, step, short
    refine ⟨.ref s, rfl, .str z5, rfl, z5, rfl, (by rw [l5]; exact Nat.le_of_lt (small1000 (by omega))), _, _, rfl, rfl, s, c, _, _, rfl, S5, by omega, ?_, ?_, fun a H6 a0 a1 S6 K6 => ?_⟩
    · show (0 : Int) < z5.length + 1; omega
    · show (z5.length : Int) + 1 < 2 ^ 62; omega
    obtain ⟨a, rfl⟩ : ∃ j : Nat, a = (j : Int) := ⟨a.toNat, by omega⟩
    have ha : a ≤ st.length := by
      have a1' : (a : Int) < z5.length + 1 := a1
      omega
    refine ⟨(by show 3 ≤ sizeLine; decide), fun p7 n7 => ?_⟩
    refine ⟨.ref s, rfl, s, c, _, _, rfl, S6.upd_new n7, by omega, by decide, by decide, fun e7 H7 e0 e1 S7 K7 => ?_⟩
    have h7 : H7 p7 = some (.lst [.int 3, .int 5, .int 25]) := K7 p7 _ upd_same (by simp [(S6.nes n7).symm, (S6.nec n7).symm])
    obtain ⟨step, hst, hat⟩ : ∃ step : Int, (step = 3 ∨ step = 5 ∨ step = 25) ∧ atI [V.int 3, V.int 5, V.int 25] e7 = some (.int step) := by
      have : e7 = 0 ∨ e7 = 1 ∨ e7 = 2 := by omega
      rcases this with rfl | rfl | rfl
      · exact ⟨3, .inl rfl, rfl⟩
      · exact ⟨5, .inr (.inl rfl), rfl⟩
      · exact ⟨25, .inr (.inr rfl), rfl⟩
    refine ⟨p7, _, _, _, rfl, rfl, .inl (.inl h7), hat, .ref s, rfl, s, c, _, _, rfl, S7, by omega, by decide, by decide, fun sh8 H8 s0 s1 S8 K8 => ?_⟩
    have K8 : Kept [s, c] H H8 := K5.trans (K6.trans (((Kept.upd_new n7).trans K7).trans K8))
    refine ⟨_, _, _, rfl, ?_⟩
    clear K7 S7 h7 n7 hat e0 e1 K6 S6 K5 S5 S2' K2'
    -- plain, some
    refine ⟨Nat.zero_le _, fun P9 nP => ?_⟩
    have S9 := S8.upd_new (o := .lst []) nP
    refine ⟨(by show 13 ≤ sizeLine; decide), fun W9 nW => ?_⟩
    have S10 := S9.upd_new (o := .lst (words13.map V.str)) nW
    have nPW : P9 ≠ W9 := ne_of_none upd_same nW
    refine ⟨_, _, rfl, ?_⟩
    have nsP := S8.nes nP
    have ncP := S8.nec nP
    have nsW := S9.nes nW
    have ncW := S9.nec nW
    -- for k in range(many)
    refine ⟨.int m, rfl, (m : Int), rfl, by omega, by omega, ?_⟩
    generalize hN : plainN st a first step sh8 = nm
    refine for_range (lo := 0) (n := (m : Int).toNat) (fun k σ H' => (∃ y11 y12, σ = [some (.ref s), some (.int m), some (.str abc), some (.int first), some (.int way), some (.str z5), some (.int a), some (.int step), some (.int sh8), some (.ref P9), some (.ref W9), y11, y12, none, none, none]) ∧
      H' P9 = some (.lst (((List.range k).map nm).map V.str)) ∧ H' W9 = some (.lst (words13.map V.str)) ∧ StAt H' s c (T + 13) ∧ Kept [P9, W9, s, c] H8 H') ⟨⟨none, none, rfl⟩, by rw [upd_ne nPW]; exact upd_same, upd_same, S10, ?_⟩ (fun k σ H9 hk hP => ?_) (fun σ H9 hP => ?_)
    · exact (Kept.upd_in (List.mem_cons_self ..)).trans (Kept.upd_in (List.mem_cons_of_mem _ (List.mem_cons_self ..)))
    · obtain ⟨⟨y11, y12, rfl⟩, eP, eW, S11, K11⟩ := hP
      have hkm : k < 26 := by omega
      -- name = stem[:at] + letters[..]
      have hz : z5.length ≤ sizeLine := by rw [l5]; exact Nat.le_of_lt (small1000 (by omega))
      have hL := letterOf_low first step k
      have x0 := Int.emod_nonneg (first + step * k) (show (26 : Int) ≠ 0 by decide)
      have x1 := Int.emod_lt_of_pos (first + step * k) (show (0 : Int) < 26 by decide)
      refine ⟨.str z5, rfl, .int a, rfl, _, rfl, z5, rfl, hz, .str abc, rfl, .int first, rfl, .int step, rfl, .int (0 + (k : Int)), rfl, _, _, rfl, rfl, .inl ⟨by omega, by omega⟩, _, _, rfl, rfl, _, _, rfl, rfl, (by decide : (0 : Int) < 26), abc, (first + step * k) % 26, letterOf first step k, rfl, ?_, x0, by omega, ?_, ?_, ?_⟩
      · show V.int ((first + step * (0 + (k : Int))) % 26) = _
        rw [Int.zero_add]
      · rw [cl_len, abc_cl]; simp; omega
      · rw [← Array.getElem?_toList]
        have h := abc_at (i := ((first + step * k) % 26).toNat) (by omega)
        exact h
      have c1 : cl (cutS z5 none (some (a : Int))) = st.take a := by
        rw [cut_cl, c5, HT.sIx_none, HT.sIx_nat, l5, Nat.min_eq_left ha, Nat.sub_zero, List.drop_zero]
      refine ⟨_, _, rfl, rfl, ?_, ?_⟩
      · rw [cl_len, c1, List.length_take]
        exact Nat.le_of_lt (small1000 (by show min a st.length + 1 ≤ 1000; omega))
      generalize hnm : cutS z5 none (some (a : Int)) ++ (⟨#[letterOf first step k]⟩ : Str) = nam
      have cn : cl nam = st.take a ++ [letterOf first step k] := by rw [← hnm, cl_app, c1]; rfl
      -- plain.append(name + [.., ..][short])
      have c2 : cl (cutS z5 (some (a : Int)) none) = st.drop a := by
        rw [cut_cl, c5, HT.sIx_none, HT.sIx_nat, l5, Nat.min_eq_left ha, List.take_of_length_le]
        rw [List.length_drop]
        exact Nat.le_refl _
      have l2 : (cutS z5 (some (a : Int)) none).length = st.length - a := by rw [cl_len, c2, List.length_drop]
      refine ⟨.ref P9, rfl, .inl ⟨rfl, _, .inl (.inl eP)⟩, .str nam, rfl, .str z5, rfl, .int a, rfl, _, rfl, z5, rfl, hz, .str z5, rfl, .int a, rfl, _, rfl, z5, rfl, hz, .int (0 + (k : Int)), rfl, _, _, rfl, rfl, (by decide : (0 : Int) < 3), _, rfl, _, rfl, (by rw [l2]; exact Nat.le_of_lt (small1000 (by omega))), (by show 2 ≤ sizeLine; decide), fun p12 n12 => ?_⟩
      have neP : P9 ≠ p12 := ne_of_none eP n12
      have neW : W9 ≠ p12 := ne_of_none eW n12
      have c3 : cl (cutS (cutS z5 (some (a : Int)) none) none (some ((0 + (k : Int)) % 3))) = (st.drop a).take (k % 3) := by
        have ek : (0 + (k : Int)) % 3 = ((k % 3 : Nat) : Int) := by omega
        rw [ek, cut_cl, c2, HT.sIx_none, HT.sIx_nat, Nat.sub_zero, List.drop_zero, l2, List.take_eq_take_iff, List.length_drop]
        omega
      obtain ⟨tl8, htl, hat8⟩ : ∃ t8 : Str, cl t8 = (if sh8 = 0 then st.drop a else (st.drop a).take (k % 3)) ∧ atI [V.str (cutS z5 (some (a : Int)) none), V.str (cutS (cutS z5 (some (a : Int)) none) none (some ((0 + (k : Int)) % 3)))] sh8 = some (.str t8) := by
        have : sh8 = 0 ∨ sh8 = 1 := by omega
        rcases this with rfl | rfl
        · exact ⟨_, by rw [c2, if_pos rfl], rfl⟩
        · exact ⟨_, by rw [c3, if_neg (by decide)], rfl⟩
      refine ⟨.int sh8, rfl, p12, _, _, _, rfl, rfl, .inl (.inl upd_same), hat8, nam, tl8, rfl, rfl, ?_, P9, _, _, rfl, rfl, (by rw [upd_ne neP]; exact eP), ?_, ?_⟩
      · rw [cl_len, cl_len, cn, htl, List.length_append, List.length_take, List.length_singleton]
        refine Nat.le_of_lt (small1000 ?_)
        split
        · rw [List.length_drop]; omega
        · rw [List.length_take, List.length_drop]; omega
      · rw [List.length_map, List.length_map, List.length_range]; exact small1000 (by omega)
      · have en : nam ++ tl8 = nm k := by
          rw [← hN]
          refine cl_inj ?_
          rw [cl_app, cn, htl]
          rfl
        refine ⟨⟨some (.int (0 + (k : Int))), some (.str nam), rfl⟩, ?_, ?_, ?_, ?_⟩
        · rw [upd_same, List.range_succ, List.map_append, List.map_append, en]; rfl
        · rw [upd_ne nPW.symm, upd_ne neW]; exact eW
        · exact (S11.upd_new n12).upd nsP ncP
        · exact K11.trans ((Kept.upd_new n12).trans (Kept.upd_in (List.mem_cons_self ..)))
    · obtain ⟨⟨y11, y12, rfl⟩, eP, eW, S11, K11⟩ := hP
      have em : ((m : Int).toNat) = m := rfl
      rw [em] at eP
      have nodP : (((List.range m).map nm)).Nodup := by
        rw [List.nodup_iff_pairwise_ne, List.pairwise_map]
        refine List.Pairwise.imp_of_mem (fun {i j} hi hj hij => ?_) List.nodup_range
        intro z
        rw [← hN] at z
        exact hij (plain_inj ha hst (by have := List.mem_range.mp hi; omega) (by have := List.mem_range.mp hj; omega) z)
      have okP : ∀ z ∈ (List.range m).map nm, NameOk z := by
        intro z hz
        obtain ⟨k, _, rfl⟩ := List.mem_map.mp hz
        rw [← hN]
        exact plain_ok hlow st7
      have lenP : ((List.range m).map nm).length = m := by rw [List.length_map, List.length_range]
      generalize (List.range m).map nm = ps at eP nodP okP lenP
      clear hN nm S9 S10
      -- found = list(plain)
      refine ⟨.ref P9, rfl, P9, _, rfl, .inl (.inl (.inl eP)), fun F10 nF => ?_⟩
      have eF : (upd H9 F10 (.lst (ps.map V.str))) F10 = some (.lst (ps.map V.str)) := upd_same
      have nPF : P9 ≠ F10 := ne_of_none eP nF
      have nWF : W9 ≠ F10 := ne_of_none eW nF
      have nsF := S11.nes nF
      have ncF := S11.nec nF
      have eP1 : (upd H9 F10 (.lst (ps.map V.str))) P9 = some (.lst (ps.map V.str)) := by rw [upd_ne nPF]; exact eP
      have eW1 : (upd H9 F10 (.lst (ps.map V.str))) W9 = some (.lst (words13.map V.str)) := by rw [upd_ne nWF]; exact eW
      have S12 := S11.upd_new (o := .lst (ps.map V.str)) nF
      have K12 : Kept [P9, W9, s, c] H8 (upd H9 F10 (.lst (ps.map V.str))) := K11.trans (Kept.upd_new nF)
      have nF8 : H8 F10 = none := K11.fresh nF (by
        intro q hq
        simp only [List.mem_cons, List.not_mem_nil, or_false] at hq
        rcases hq with rfl | rfl | rfl | rfl
        · exact nPF
        · exact nWF
        · exact nsF
        · exact ncF)
      generalize upd H9 F10 (.lst (ps.map V.str)) = H10 at eF eP1 eW1 S12 K12 ⊢
      -- for k in range(min(many, 13) * int(way == 0))
      refine ⟨.int m, rfl, _, _, rfl, .int way, rfl, rfl, .inr ⟨_, rfl, _, _, rfl, rfl, .inl ⟨?_, ?_⟩, _, rfl, ?_, ?_, ?_⟩⟩
      · omega
      · omega
      · show -(2 ^ 62 : Int) ≤ (if (13 : Int) < (m : Int) then 13 else (m : Int)) * (if decide (V.int way = V.int 0) = true then 1 else 0)
        split <;> split <;> omega
      · show (if (13 : Int) < (m : Int) then 13 else (m : Int)) * (if decide (V.int way = V.int 0) = true then 1 else 0) < (2 ^ 62 : Int)
        split <;> split <;> omega
      · obtain ⟨N, hN, hN13, hNm⟩ : ∃ N : Nat, ((if (13 : Int) < (m : Int) then 13 else (m : Int)) * (if decide (V.int way = V.int 0) = true then 1 else 0) : Int).toNat = N ∧ N ≤ 13 ∧ N ≤ m := by
          refine ⟨_, rfl, ?_, ?_⟩ <;> (split <;> split <;> omega)
        rw [show ((if (13 : Int) < (m : Int) then 13 else (m : Int)) * (if decide (V.int way = V.int 0) = true then 1 else 0) : Int).toNat = N from hN]
        refine for_range (lo := 0) (n := N) (fun k σ H' => (∃ y11 y12 y14, σ = [some (.ref s), some (.int m), some (.str abc), some (.int first), some (.int way), some (.str z5), some (.int a), some (.int step), some (.int sh8), some (.ref P9), some (.ref W9), y11, y12, some (.ref F10), y14, none]) ∧
          (∃ fs : List Str, H' F10 = some (.lst (fs.map V.str)) ∧ Mixed first ps k fs) ∧ H' P9 = some (.lst (ps.map V.str)) ∧ H' W9 = some (.lst (words13.map V.str)) ∧ StAt H' s c (T + 13 + k) ∧ Kept [F10, P9, W9, s, c] H8 H') ⟨⟨y11, y12, none, rfl⟩, ⟨ps, eF, mixed_start first nodP okP⟩, eP1, eW1, S12, K12.mono (fun _ h => List.mem_cons_of_mem _ h)⟩ (fun k σ H11 hk hP => ?_) (fun σ H11 hP => ?_)
        · obtain ⟨⟨y11, y12, y14, rfl⟩, ⟨fs, eF, mx⟩, eP, eW, S13, K13⟩ := hP
          -- word = some[(first + k) % 13]
          have g0 := Int.emod_nonneg (first + k) (show (13 : Int) ≠ 0 by decide)
          have g1 := Int.emod_lt_of_pos (first + k) (show (0 : Int) < 13 by decide)
          have gw : (words13.map V.str)[((first + k) % 13).toNat]? = some (.str (wordAt first k)) := by
            rw [List.getElem?_map, wordAt_get first k]
            rfl
          refine ⟨.ref W9, rfl, .int first, rfl, .int (0 + (k : Int)), rfl, _, _, rfl, rfl, _, _, rfl, rfl, (by decide : (0 : Int) < 13), W9, _, _, .str (wordAt first k), rfl, rfl, .inl (.inl eW), ?_, ?_⟩
          · show atI (words13.map V.str) ((first + (0 + (k : Int))) % 13) = _
            rw [Int.zero_add, show (first + k) % 13 = ((((first + k) % 13).toNat : Nat) : Int) by omega]
            exact atI_nat gw
          -- if word not in plain and ..
          refine ⟨.str (wordAt first k), rfl, .ref P9, rfl, P9, _, rfl, .inl (.inl (.inl eP)), rfl, flat_strs ps, _, rfl, ?_⟩
          rw [if_pos rfl, inV_strs]
          refine ite2 (fun hn => ?_) (fun hn => ?_)
          · have hnot : wordAt first k ∉ ps := by simpa using hn
            refine ⟨.ref s, rfl, s, c, _, _, rfl, S13, by omega, by decide, by decide, fun d H12 d0 d1 S14 K14 => ?_⟩
            have out : ∀ q, q = P9 ∨ q = W9 ∨ q = F10 → q ∉ [s, c] := by
              intro q hq hm'
              simp only [List.mem_cons, List.not_mem_nil, or_false] at hm'
              rcases hq with rfl | rfl | rfl <;> rcases hm' with z | z
              · exact nsP z.symm
              · exact ncP z.symm
              · exact nsW z.symm
              · exact ncW z.symm
              · exact nsF z.symm
              · exact ncF z.symm
            have eF' := K14.at eF (out _ (.inr (.inr rfl)))
            have eP' := K14.at eP (out _ (.inl rfl))
            have eW' := K14.at eW (out _ (.inr (.inl rfl)))
            have K15 : Kept [F10, P9, W9, s, c] H8 H12 := K13.trans (K14.mono (by
              intro q hq
              exact List.mem_cons_of_mem _ (List.mem_cons_of_mem _ (List.mem_cons_of_mem _ hq))))
            refine ⟨rfl, _, rfl, ite2 (fun _ => ?_) (fun _ => ?_)⟩
            · -- found[k] = word
              refine ⟨.str (wordAt first k), rfl, .ref F10, rfl, .int (0 + (k : Int)), rfl, F10, _, _, k, rfl, rfl, eF', ?_, ?_⟩
              · rw [Int.zero_add, List.length_map, mx.len, lenP]
                exact ixN_nat (by omega)
              · refine ⟨⟨some (.int (0 + (k : Int))), y12, some (.str (wordAt first k)), rfl⟩, ⟨_, by rw [upd_same, ← List.map_set], mx.put hnot (by omega)⟩, by rw [upd_ne nPF]; exact eP', by rw [upd_ne nWF]; exact eW', (S14.upd nsF ncF).mono (by omega), K15.trans (Kept.upd_in (List.mem_cons_self ..))⟩
            · exact ⟨⟨some (.int (0 + (k : Int))), y12, some (.str (wordAt first k)), rfl⟩, ⟨fs, eF', mx.skip⟩, eP', eW', S14.mono (by omega), K15⟩
          · refine iteF ?_
            exact ⟨⟨some (.int (0 + (k : Int))), y12, some (.str (wordAt first k)), rfl⟩, ⟨fs, eF, mx.skip⟩, eP, eW, S13.mono (by omega), K13⟩
        · obtain ⟨⟨y11, y12, y14, rfl⟩, ⟨fs, eF, mx⟩, eP, eW, S13, K13⟩ := hP
          refine ⟨.ref F10, rfl, ?_⟩
          refine q F10 fs H11 (by rw [mx.len, lenP]) (mx.nodup nodP (by omega)) (mx.ok okP) (K8.fresh nF8 ?_) eF (S13.mono (by omega)) (K8.trans ?_)
          · intro z hz
            simp only [List.mem_cons, List.not_mem_nil, or_false] at hz
            rcases hz with rfl | rfl
            · exact nsF
            · exact ncF
          · intro p o e hp
            exact K13 p o e (by
              intro z
              simp only [List.mem_cons, List.not_mem_nil, or_false] at z hp
              rcases z with rfl | rfl | rfl | z
              · rw [nF8] at e; cases e
              · rw [nP] at e; cases e
              · rw [Same.free (same_upd nP) nW] at e; cases e
              · exact hp z)
end
end TT

set_option Elab.async false
set_option linter.all false
set_option maxRecDepth 100000
namespace TT
open PySem PySem.Spec PyProof.Rows L2
/-! ### worths -/
def wV : Option Int → V
  | none => .non
  | some i => .int i
def wD : Option Int → PyData
  | none => .none
  | some i => .int i
def WOk : Option Int → Prop
  | none => True
  | some i => -1000000000 ≤ i ∧ i ≤ 1000000000
theorem dp_w {K : PySem.W.Frag} {H : Hp} : ∀ o : Option Int, Dp K H (wV o) (wD o)
  | none => .non
  | some i => .int i
section
variable {P : Program} {w : World} {K : PySem.W.Frag} {mg : Str → Option Value} {base : Heap}
def spWorth : Sp := fun vs H Q _ => ∃ (s c : Addr) (T : Nat), vs = [.ref s] ∧ StAt H s c T ∧ T + 3 ≤ 1000000 ∧
  ∀ (o : Option Int) (H' : Hp), WOk o → StAt H' s c (T + 3) → Kept [s, c] H H' → Q (wV o) H'
abbrev s_law_worth : Stmt := topS 16
abbrev N_law_worth : List Str := ["state", "way"]
theorem sc_law_worth : FnScope N_law_worth ["state"] (defScope s_law_worth) := ⟨rfl, rfl, rfl, by decide +kernel, rfl, by decide +kernel, by decide +kernel⟩

theorem ok_worth {f : Addr} {fd : FuncData} (F : Fun K "_law_worth" "_law_worth" s_law_worth f fd) (D_law_take : Def P w K mg base 1 "_law_take" ["state", "many"] spTake) : FnOk P w K mg base CX0 2 f fd ["state"] spWorth := by
  refine F.ok sc_law_worth (fun vs H Q E h => ?_) (fun cdv A outer sh H vs Q E hr h => ?_)
  · obtain ⟨s, c, T, rfl, _⟩ := h
    rfl
  · obtain ⟨s, c, T, rfl, S, hT, q⟩ := h
    have nd := sc_law_worth.nd
    have hu := hu_of hr
    refine ⟨_, (pss_cons (ps_set (i := 1) nd rfl (Or.inl rfl) (pe_own D_law_take hr (pa_cons (pv 0) (pa_cons pe_int pa_nil))))
      (pss_cons (ps_if (pt_cmpR op_lt (pv 1) pe_int (nomark _))
        (pss_one (ps_ret (pe_ix ix_list (pe_lst (pa_cons pe_non (pa_cons pe_int pa_nil))) (pv 1) (fun _ _ => rfl))))
        pss_nil)
      (pss_cons (ps_if (pt_cmpR op_lt (pv 1) pe_int (nomark _))
        (pss_one (ps_ret (pe_op op_sub (pe_own D_law_take hr (pa_cons (pv 0) (pa_cons pe_int pa_nil))) pe_int)))
        pss_nil)
      (pss_one (ps_ret (pe_ix ix_list (pe_lst (pa_cons (pe_op op_sub (pe_own D_law_take hr (pa_cons (pv 0) (pa_cons (pe_op op_add (pe_op op_mul pe_int (pe_op op_pow pe_int pe_int)) pe_int) pa_nil))) (pe_op op_pow pe_int pe_int)) (pa_cons (pe_op op_sub (pe_op op_pow pe_int pe_int) (pe_op op_mul (pe_op op_mul pe_int (pe_op op_pow pe_int pe_int)) (pe_own D_law_take hr (pa_cons (pv 0) (pa_cons pe_int pa_nil))))) pa_nil))) (pe_op op_sub (pv 1) pe_int) (fun _ _ => rfl))))))), ?_⟩
    refine ⟨.ref s, rfl, s, c, T, _, rfl, S, by omega, by decide, by decide, fun way H1 w0 w1 S1 K1 => ?_⟩
    refine ⟨.int way, rfl, _, _, rfl, rfl, _, rfl, ite2 (fun h1 => ?_) (fun h1 => ?_)⟩
    · have h1 : way < 2 := of_decide_eq_true h1
      refine ⟨(by show 2 ≤ sizeLine; decide), fun p np => ?_⟩
      have : way = 0 ∨ way = 1 := by omega
      rcases this with rfl | rfl
      · exact ⟨.int 0, rfl, p, _, _, .non, rfl, rfl, .inl (.inl upd_same), rfl, q none _ trivial ((S1.upd_new np).mono (by omega)) (K1.trans (Kept.upd_new np))⟩
      · exact ⟨.int 1, rfl, p, _, _, .int 0, rfl, rfl, .inl (.inl upd_same), rfl, q (some 0) _ ⟨by decide, by decide⟩ ((S1.upd_new np).mono (by omega)) (K1.trans (Kept.upd_new np))⟩
    · have h1 : ¬ way < 2 := fun h => h1 (decide_eq_true h)
      refine ⟨.int way, rfl, _, _, rfl, rfl, _, rfl, ite2 (fun h2 => ?_) (fun h2 => ?_)⟩
      · refine ⟨.ref s, rfl, s, c, _, _, rfl, S1, by omega, by decide, by decide, fun d H2 d0 d1 S2 K2 => ⟨_, _, rfl, rfl, ?_⟩⟩
        exact q (some (d - 4)) _ ⟨by omega, by omega⟩ (S2.mono (by omega)) (K1.trans K2)
      · have h2 : ¬ way < 6 := fun h => h2 (decide_eq_true h)
        refine ⟨.ref s, rfl, 10, 9, rfl, rfl, ⟨by decide, by decide, by decide⟩, _, _, rfl, rfl, .inl ⟨by decide, by decide⟩, _, _, rfl, rfl, s, c, _, _, rfl, S1, by omega, by decide, by decide, fun d H2 d0 d1 S2 K2 => ?_⟩
        refine ⟨10, 9, rfl, rfl, ⟨by decide, by decide, by decide⟩, _, _, rfl, rfl, ?_⟩
        refine ⟨10, 9, rfl, rfl, ⟨by decide, by decide, by decide⟩, 10, 9, rfl, rfl, ⟨by decide, by decide, by decide⟩, _, _, rfl, rfl, .inl ⟨by decide, by decide⟩, .ref s, rfl, s, c, _, _, rfl, S2, by omega, by decide, by decide, fun e H3 e0 e1 S3 K3 => ?_⟩
        refine ⟨_, _, rfl, rfl, .inl ⟨by decide, by decide⟩, _, _, rfl, rfl, (by show 2 ≤ sizeLine; decide), fun p np => ?_⟩
        have e9 : (10 : Int) ^ (9 : Int).toNat = 1000000000 := by decide
        have d1' : d < 2 * 1000000000 + 1 := by rw [← e9]; exact d1
        have S4 := (S3.upd_new (o := .lst [.int (d - 10 ^ (9 : Int).toNat), .int (10 ^ (9 : Int).toNat - 2 * 10 ^ (9 : Int).toNat * e)]) np).mono (T' := T + 3) (by omega)
        have K4 : Kept [s, c] H (upd H3 p (.lst [.int (d - 10 ^ (9 : Int).toNat), .int (10 ^ (9 : Int).toNat - 2 * 10 ^ (9 : Int).toNat * e)])) := K1.trans (K2.trans (K3.trans (Kept.upd_new np)))
        have : way = 6 ∨ way = 7 := by omega
        rcases this with rfl | rfl
        · exact ⟨.int 6, rfl, _, _, rfl, rfl, p, _, _, .int (d - 10 ^ (9 : Int).toNat), rfl, rfl, .inl (.inl upd_same), rfl, q (some (d - 10 ^ (9 : Int).toNat)) _ ⟨by rw [e9]; omega, by rw [e9]; omega⟩ S4 K4⟩
        · exact ⟨.int 7, rfl, _, _, rfl, rfl, p, _, _, .int (10 ^ (9 : Int).toNat - 2 * 10 ^ (9 : Int).toNat * e), rfl, rfl, .inl (.inl upd_same), rfl, q (some (10 ^ (9 : Int).toNat - 2 * 10 ^ (9 : Int).toNat * e)) _ ⟨by rw [e9]; omega, by rw [e9]; omega⟩ S4 K4⟩
end
end TT

set_option Elab.async false
set_option linter.all false
set_option maxRecDepth 100000
namespace TT
open PySem PySem.Spec PyProof.Rows L2
/-! ### tables as plain data -/
abbrev Col := Str × Option Int
abbrev Tab := Str × List Col
def colD (x : Col) : PyData := .tuple [.str x.1, wD x.2]
def tabD (x : Tab) : PyData := .tuple [.str x.1, .tuple (x.2.map colD)]
structure ColsOk (n : Nat) (cs : List Col) : Prop where
  top : cs.length ≤ n
  nd : (cs.map (·.1)).Nodup
  nm : ∀ x ∈ cs, NameOk x.1
  w : ∀ x ∈ cs, WOk x.2
  key : ∀ x, cs[0]? = some x → x.2 = none
structure TabsOk (n : Nat) (ts : List Tab) : Prop where
  nd : (ts.map (·.1)).Nodup
  nm : ∀ x ∈ ts, NameOk x.1
  cs : ∀ x ∈ ts, ColsOk n x.2 ∧ 0 < x.2.length
theorem strOk_name {z : Str} (h : NameOk z) : PyData.strOk z = true := by
  unfold PyData.strOk
  rw [Array.all_eq_true']
  intro x hx
  have := h.low x (by unfold cl; exact Array.mem_toList_iff.mpr hx)
  unfold low at this
  simp; omega
theorem lay_w : ∀ o : Option Int, (wD o).canLay0 = true ∧ (wD o).depth = 0
  | none => ⟨rfl, rfl⟩
  | some _ => ⟨rfl, rfl⟩
theorem lay_cols : ∀ cs : List Col, (∀ x ∈ cs, NameOk x.1) → PyData.canLayAll0 (cs.map colD) = true ∧ PyData.depthAll (cs.map colD) ≤ 1
  | [], _ => ⟨rfl, Nat.zero_le _⟩
  | x :: cs, h => by
    obtain ⟨h1, h2⟩ := lay_cols cs fun y hy => h y (List.mem_cons_of_mem _ hy)
    have h3 := strOk_name (h x (List.mem_cons_self ..))
    obtain ⟨h4, h5⟩ := lay_w x.2
    constructor
    · show ((PyData.strOk x.1 && ((wD x.2).canLay0 && true)) && PyData.canLayAll0 (cs.map colD)) = true
      rw [h3, h4, h1]; rfl
    · show max (max 0 (max (wD x.2).depth 0) + 1) (PyData.depthAll (cs.map colD)) ≤ 1
      rw [h5]
      exact Nat.max_le.mpr ⟨Nat.le_refl _, h2⟩
theorem shaped_cols {cs : List Col} (h : ∀ x ∈ cs, NameOk x.1) : SeqAt.shaped (.list (cs.map colD)) = true := by
  obtain ⟨h1, h2⟩ := lay_cols cs h
  show (PyData.canLayAll0 (cs.map colD) && decide (PyData.depthAll (cs.map colD) + 1 ≤ 64)) = true
  rw [h1, decide_eq_true (by omega)]; rfl
theorem eqv_nil (ds : List PyData) : PyData.eqv (.list ds) (.list []) = ds.isEmpty := by
  cases ds <;> rfl
section
variable {P : Program} {w : World} {K : PySem.W.Frag} {mg : Str → Option Value} {base : Heap}
def spTables (K : PySem.W.Frag) : Sp := fun vs H Q _ => ∃ (s c : Addr) (T m n : Nat), vs = [.ref s, .int m, .int n] ∧ StAt H s c T ∧ T + 1000 ≤ 1000000 ∧ m ≤ 8 ∧ 0 < n ∧ n ≤ 8 ∧
  ∀ (p : Addr) (ts : List Tab) (H' : Hp), ts.length = m → TabsOk n ts → H p = none → Dp K (msk [s, c] H') (.ref p) (.tuple (ts.map tabD)) → StAt H' s c (T + 1000) → Kept [s, c] H H' → Q (.ref p) H'
abbrev s_law_tables : Stmt := topS 17
abbrev N_law_tables : List Str := ["state", "many", "wide", "found", "name", "columns", "column"]
theorem sc_law_tables : FnScope N_law_tables ["state", "many", "wide"] (defScope s_law_tables) := ⟨rfl, rfl, rfl, by decide +kernel, rfl, by decide +kernel, by decide +kernel⟩

theorem ok_tables {f : Addr} {fd : FuncData} (F : Fun K "_law_tables" "_law_tables" s_law_tables f fd) (nb : NB mg) (D_law_take : Def P w K mg base 1 "_law_take" ["state", "many"] spTake)
    (D_law_names : Def P w K mg base 2 "_law_names" ["state", "many"] spNames) (D_law_worth : Def P w K mg base 2 "_law_worth" ["state"] spWorth) : FnOk P w K mg base CX0 3 f fd ["state", "many", "wide"] (spTables K) := by
  refine F.ok sc_law_tables (fun vs H Q E h => ?_) (fun cdv A outer sh H vs Q E hr h => ?_)
  · obtain ⟨s, c, T, m, n, rfl, _⟩ := h
    rfl
  · obtain ⟨s, c, T, m, n, rfl, S, hT, hm, hn0, hn, q⟩ := h
    have nd := sc_law_tables.nd
    have hu := hu_of hr
    refine ⟨_, (pss_cons (ps_set (i := 3) nd rfl (Or.inl rfl) (pe_lst pa_nil))
      (pss_cons (ps_for PassesOwn.never rfl (pi_list (pe_own D_law_names hr (pa_cons (pv 0) (pa_cons (pv 1) pa_nil)))) (pg_name (i := 4) nd rfl (Or.inl rfl))
        (pss_cons (ps_set (i := 5) nd rfl (Or.inl rfl) (pe_lst pa_nil))
        (pss_cons (ps_for PassesOwn.never rfl (pi_list (pe_own D_law_names hr (pa_cons (pv 0) (pa_cons (pe_op op_add pe_int (pe_own D_law_take hr (pa_cons (pv 0) (pa_cons (pv 2) pa_nil)))) pa_nil)))) (pg_name (i := 6) nd rfl (Or.inl rfl))
          (pss_one (ps_expr (pe_bm PySem.F.plainAttrs_list PySem.F.slot_list_append PySem.F.type_list_append mt_append (pv 5) (pa_cons (pe_tup (pa_cons (pv 6) (pa_cons (pe_ifExp (pt_cmpR (op_neD hr.units) (pv 5) (pe_lst pa_nil) (nomark _)) (pe_own D_law_worth hr (pa_cons (pv 0) pa_nil)) pe_non) pa_nil))) pa_nil)))))
        (pss_one (ps_expr (pe_bm PySem.F.plainAttrs_list PySem.F.slot_list_append PySem.F.type_list_append mt_append (pv 3) (pa_cons (pe_tup (pa_cons (pv 4) (pa_cons (pe_callTy call_tuple_of (by rfl) nb.b_tuple (by decide +kernel) (pa_cons (pv 5) pa_nil)) pa_nil))) pa_nil)))))))
      (pss_one (ps_ret (pe_callTy call_tuple_of (by rfl) nb.b_tuple (by decide +kernel) (pa_cons (pv 3) pa_nil)))))), ?_⟩
    refine ⟨Nat.zero_le _, fun P3 n3 => ?_⟩
    have S1 := S.upd_new (o := .lst []) n3
    have ns3 := S.nes n3
    have nc3 := S.nec n3
    have out3 : P3 ∉ [s, c] := by
      intro z
      simp only [List.mem_cons, List.not_mem_nil, or_false] at z
      rcases z with z | z
      · exact ns3 z.symm
      · exact nc3 z.symm
    have e3 : (upd H P3 (.lst [])) P3 = some (.lst []) := upd_same
    have K01 : Kept [P3, s, c] H (upd H P3 (.lst [])) := Kept.upd_new n3
    -- for name in ..
    refine ⟨.ref s, rfl, .int m, rfl, s, c, _, m, rfl, S1, by omega, by omega, fun pn zs H2 lz ndz okz nfz ez S2 K2 => ⟨pn, rfl, ⟨_, .inl (.inl ez)⟩, ?_⟩⟩
    have e3' : H2 P3 = some (.lst []) := K2.at e3 out3
    have ncn : pn ≠ P3 := fun z => by
      rw [z, e3] at nfz
      cases nfz
    have nsn : s ≠ pn := S1.nes nfz
    have ncp : c ≠ pn := S1.nec nfz
    have outn : pn ∉ [P3, s, c] := by
      intro z
      simp only [List.mem_cons, List.not_mem_nil, or_false] at z
      rcases z with z | z | z
      · exact ncn z
      · exact nsn z.symm
      · exact ncp z.symm
    have K02 : Kept [P3, s, c] H H2 := K01.trans (K2.mono (by intro p hp; exact List.mem_cons_of_mem _ hp))
    refine for_list (K := K) (a := pn) (xs := zs.map V.str) (fun i σ H' => (∃ y5 y6 y7, σ = [some (.ref s), some (.int m), some (.int n), some (.ref P3), y5, y6, y7]) ∧
      (∃ (vs : List V) (ts : List Tab), H' P3 = some (.lst vs) ∧ DpAll K (msk [P3, s, c] H') vs (ts.map tabD) ∧ ts.map (·.1) = zs.take i ∧ ∀ x ∈ ts, ColsOk n x.2 ∧ 0 < x.2.length) ∧ H' pn = some (.lst (zs.map V.str)) ∧ StAt H' s c (T + 31 + i * 100) ∧ Kept [P3, s, c] H H')
      ⟨⟨none, none, none, rfl⟩, ⟨[], [], e3', .nil, rfl, fun _ h => absurd h List.not_mem_nil⟩, ez, S2.mono (by omega), K02⟩ (fun i σ H' _ hP => .inl (.inl hP.2.2.1)) (fun i x σ H3 hx hP => ?_) (fun σ H3 hP => ?_)
    · obtain ⟨⟨y5, y6, y7, rfl⟩, ⟨vs, ts, eP, dp, em, okc⟩, en, S3, K3⟩ := hP
      rw [List.getElem?_map] at hx
      obtain ⟨z, hz, rfl⟩ := Option.map_eq_some_iff.mp hx
      have hi : i < zs.length := (List.getElem?_eq_some_iff.mp hz).1
      -- columns = []
      refine ⟨Nat.zero_le _, fun P6 n6 => ?_⟩
      have ns6 := S3.nes n6
      have nc6 := S3.nec n6
      have n36 : P3 ≠ P6 := ne_of_none eP n6
      have nn6 : pn ≠ P6 := ne_of_none en n6
      have S4 := S3.upd_new (o := .lst []) n6
      have K4 : Kept [P6, P3, s, c] H3 (upd H3 P6 (.lst [])) := Kept.upd_new n6
      have e6 : (upd H3 P6 (.lst [])) P6 = some (.lst []) := upd_same
      have n6H : H P6 = none := K3.fresh n6 (by
        intro q hq
        simp only [List.mem_cons, List.not_mem_nil, or_false] at hq
        rcases hq with rfl | rfl | rfl
        · exact n36
        · exact ns6
        · exact nc6)
      -- for column in ..
      have im : i < 8 := by omega
      refine ⟨.ref s, rfl, ?_⟩
      refine ⟨.ref s, rfl, .int n, rfl, s, c, _, _, rfl, S4, by omega, by omega, by omega, fun e H7 g0 g1 S7 K7 => ⟨_, _, rfl, rfl, ?_⟩⟩
      obtain ⟨kk, hkk⟩ : ∃ kk : Nat, 1 + e = (kk : Int) := ⟨(1 + e).toNat, by omega⟩
      refine ⟨s, c, _, kk, congrArg (fun z => [V.ref s, V.int z]) hkk, S7, by omega, by omega, fun pq ys H5 ly ndy oky nfy ey S5 K5 => ⟨pq, rfl, ⟨_, .inl (.inl ey)⟩, ?_⟩⟩
      have ly2 : 0 < ys.length ∧ ys.length ≤ n := by omega
      have n5 : P6 ≠ pq := ne_of_none (K7.at e6 (by simp [ns6.symm, nc6.symm])) nfy
      have n35 : P3 ≠ pq := ne_of_none (K7.at (show (upd H3 P6 (.lst [])) P3 = some _ by rw [upd_ne n36]; exact eP) out3) nfy
      have nn5 : pn ≠ pq := ne_of_none (K7.at (show (upd H3 P6 (.lst [])) pn = some _ by rw [upd_ne nn6]; exact en) (by simp [nsn.symm, ncp.symm])) nfy
      have K6 : Kept [s, c] (upd H3 P6 (.lst [])) H5 := K7.trans K5
      have S6 : StAt H5 s c (T + 62 + i * 100) := S5.mono (by omega)
      have nsq : s ≠ pq := S7.nes nfy
      have ncq : c ≠ pq := S7.nec nfy
      · have out6 : P6 ∉ [s, c] := by simp [ns6.symm, nc6.symm]
        have eP5 : H5 P3 = some (.lst vs) := K6.at (show (upd H3 P6 (.lst [])) P3 = some _ by rw [upd_ne n36]; exact eP) out3
        have e65 : H5 P6 = some (.lst []) := K6.at e6 out6
        have en5 : H5 pn = some (.lst (zs.map V.str)) := K6.at (show (upd H3 P6 (.lst [])) pn = some _ by rw [upd_ne nn6]; exact en) (by simp [nsn.symm, ncp.symm])
        have K36 : Kept [P6, P3, s, c] H3 H5 := K4.trans (K6.mono (by intro p hp; exact List.mem_cons_of_mem _ (List.mem_cons_of_mem _ hp)))
        refine for_list (K := K) (a := pq) (xs := ys.map V.str) (fun j σ H' => (∃ y7, σ = [some (.ref s), some (.int m), some (.int n), some (.ref P3), some (.str z), some (.ref P6), y7]) ∧
          (∃ (us : List V) (cs : List Col), H' P6 = some (.lst us) ∧ DpAll K (msk [P6, P3, s, c] H') us (cs.map colD) ∧ cs.map (·.1) = ys.take j ∧ (∀ x ∈ cs, WOk x.2) ∧ ∀ x, cs[0]? = some x → x.2 = none) ∧ H' pq = some (.lst (ys.map V.str)) ∧ StAt H' s c (T + 62 + i * 100 + j * 3) ∧ Kept [P6, P3, s, c] H3 H' ∧ H' P3 = some (.lst vs))
          ⟨⟨y7, rfl⟩, ⟨[], [], e65, .nil, rfl, fun _ h => absurd h List.not_mem_nil, fun _ h => nomatch h⟩, ey, S6, K36, eP5⟩ (fun j σ H' _ hP => .inl (.inl hP.2.2.1)) (fun j x σ H8 hx8 hP => ?_) (fun σ H8 hP => ?_)
        · obtain ⟨⟨y7, rfl⟩, ⟨us, cs, e6, dpu, emu, okw, oky0⟩, eq, S8, K8, eP8⟩ := hP
          rw [List.getElem?_map] at hx8
          obtain ⟨y, hy, rfl⟩ := Option.map_eq_some_iff.mp hx8
          have hj : j < ys.length := (List.getElem?_eq_some_iff.mp hy).1
          have hcl : cs.length = j := by
            have := congrArg List.length emu
            rw [List.length_map, List.length_take] at this
            omega
          have okn : ∀ x ∈ cs, NameOk x.1 := fun x hx => oky x.1 (by
            have h : x.1 ∈ cs.map (·.1) := List.mem_map.mpr ⟨x, hx, rfl⟩
            rw [emu] at h
            exact List.mem_of_mem_take h)
          have uslen : us.length = j := by rw [dpAll_len dpu, List.length_map, hcl]
          -- columns.append((column, worth if columns != [] else None))
          refine ⟨.ref P6, rfl, .inl ⟨rfl, _, .inl (.inl e6)⟩, .str y, rfl, .ref P6, rfl, Nat.zero_le _, fun q9 n9 => ?_⟩
          have n69 : P6 ≠ q9 := ne_of_none e6 n9
          have n39 : P3 ≠ q9 := ne_of_none eP8 n9
          have nq9 : pq ≠ q9 := ne_of_none eq n9
          have S9 := S8.upd_new (o := .lst []) n9
          have K9 : Kept [P6, P3, s, c] H3 (upd H8 q9 (.lst [])) := K8.trans (Kept.upd_new n9)
          have sm9 : Same H8 (upd H8 q9 (.lst [])) := same_upd n9
          refine ⟨.list (cs.map colD), .list [], .lst (.inl (.inl (sm9 _ _ e6))) (dpAll_same sm9 (dpAll_same (msk_sub _ _) dpu)), .lst (.inl (.inl upd_same)) .nil, shaped_cols okn, rfl, _, rfl, ?_⟩
          rw [eqv_nil]
          cases hE : (cs.map colD).isEmpty
          case' false =>
            have hcs : ¬ cs = [] := fun z => by rw [z] at hE; cases hE
            refine iteT ?_
            refine ⟨.ref s, rfl, s, c, _, rfl, S9, by omega, fun o H10 wo S10 K10 => ?_⟩
            have hon : cs = [] → o = none := fun z => absurd z hcs
          case' true =>
            have hcs : cs = [] := by
              cases cs with
              | nil => rfl
              | cons a r => cases hE
            refine iteF ?_
            obtain ⟨o, ho, wo⟩ : ∃ o : Option Int, o = none ∧ WOk o := ⟨none, rfl, trivial⟩
            have hon : cs = [] → o = none := fun _ => ho
            obtain ⟨H10, hH10⟩ : ∃ H10, H10 = upd H8 q9 (.lst []) := ⟨_, rfl⟩
            have S10 : StAt H10 s c (T + 62 + i * 100 + j * 3 + 3) := by rw [hH10]; exact S9.mono (by omega)
            have K10 : Kept [s, c] (upd H8 q9 (.lst [])) H10 := by rw [hH10]; exact Kept.refl _ _
            rw [← hH10]
            have hv : (V.non) = wV o := by rw [ho]; rfl
            rw [hv]
          all_goals
            refine ⟨(by show 2 ≤ sizeLine; decide), fun t nt => ?_⟩
            have outq : pq ∉ [s, c] := by
              intro hz
              simp only [List.mem_cons, List.not_mem_nil, or_false] at hz
              rcases hz with hz | hz
              · exact nsq hz.symm
              · exact ncq hz.symm
            have e6b : H10 P6 = some (.lst us) := K10.at (sm9 _ _ e6) out6
            have eqb : H10 pq = some (.lst (ys.map V.str)) := K10.at (sm9 _ _ eq) outq
            have ePb : H10 P3 = some (.lst vs) := K10.at (sm9 _ _ eP8) out3
            have n6t : P6 ≠ t := ne_of_none e6b nt
            have nqt : pq ≠ t := ne_of_none eqb nt
            have n3t : P3 ≠ t := ne_of_none ePb nt
            have Kb : Kept [P6, P3, s, c] H8 H10 := (Kept.of_same sm9).trans (K10.mono (by intro p hp; exact List.mem_cons_of_mem _ (List.mem_cons_of_mem _ hp)))
            have Kc : Kept [P6, P3, s, c] H8 (upd (upd H10 t (.tup [.str y, wV o])) P6 (.lst (us ++ [.ref t]))) := Kb.trans ((Kept.upd_new nt).trans (Kept.upd_in (List.mem_cons_self ..)))
            refine ⟨P6, us, _, rfl, rfl, (by rw [upd_ne n6t]; exact e6b), by rw [uslen]; exact small1000 (by omega), ⟨some (.str y), rfl⟩, ⟨_, cs ++ [(y, o)], upd_same, ?_, ?_, ?_, ?_⟩, ?_, ((S10.upd_new nt).upd ns6 nc6).mono (by omega), K8.trans Kc, ?_⟩
            · rw [List.map_append]
              refine dpAll_snoc (dpAll_same (msk_same Kc) dpu) ?_
              refine .tup (xs := [.str y, wV o]) (.inl (.inl ?_)) (.cons (.str y) (.cons (dp_w o) .nil))
              unfold msk
              rw [if_neg (by
                intro hz
                simp only [List.mem_cons, List.not_mem_nil, or_false] at hz
                rcases hz with hz | hz | hz | hz
                · exact n6t hz.symm
                · exact n3t hz.symm
                · exact S10.nes nt hz.symm
                · exact S10.nec nt hz.symm), upd_ne n6t.symm, upd_same]
            · rw [List.map_append, emu, List.take_add_one, hy]; rfl
            · intro x hx
              rcases List.mem_append.mp hx with h | h
              · exact okw x h
              · rw [List.mem_singleton.mp h]; exact wo
            · intro x hx
              cases cs with
              | nil =>
                have : x = (y, o) := (Option.some.inj hx).symm
                rw [this]; exact hon rfl
              | cons a r => exact oky0 x hx
            · rw [upd_ne n5.symm, upd_ne nqt]; exact eqb
            · rw [upd_ne n36, upd_ne n3t]; exact ePb
        · obtain ⟨⟨y7, rfl⟩, ⟨us, cs, e6, dpu, emu, okw, oky0⟩, eq, S8, K8, eP8⟩ := hP
          have lyy : (ys.map V.str).length = ys.length := List.length_map ..
          rw [lyy] at emu S8
          rw [List.take_length] at emu
          have hcl : cs.length = ys.length := by rw [← emu, List.length_map]
          have uslen : us.length = cs.length := by rw [dpAll_len dpu, List.length_map]
          -- found.append((name, tuple(columns)))
          refine ⟨.ref P3, rfl, .inl ⟨rfl, _, .inl (.inl eP8)⟩, .str z, rfl, .ref P6, rfl, P6, us, rfl, .inl ⟨.inl (.inl e6), fun t nt => ?_⟩⟩
          have n6t : P6 ≠ t := ne_of_none e6 nt
          have n3t : P3 ≠ t := ne_of_none eP8 nt
          have nst := S8.nes nt
          have nct := S8.nec nt
          refine ⟨(by show 2 ≤ sizeLine; decide), fun t2 nt2 => ?_⟩
          have n3t2 : P3 ≠ t2 := ne_of_none (show (upd H8 t (.tup us)) P3 = some _ by rw [upd_ne n3t]; exact eP8) nt2
          have n6t2 : P6 ≠ t2 := ne_of_none (show (upd H8 t (.tup us)) P6 = some _ by rw [upd_ne n6t]; exact e6) nt2
          have ntt2 : t ≠ t2 := ne_of_none upd_same nt2
          have nst2 := (S8.upd_new (o := .tup us) nt).nes nt2
          have nct2 := (S8.upd_new (o := .tup us) nt).nec nt2
          have Kd : Kept [P6, P3, s, c] H8 (upd (upd (upd H8 t (.tup us)) t2 (.tup [.str z, .ref t])) P3 (.lst (vs ++ [.ref t2]))) := (Kept.upd_new nt).trans ((Kept.upd_new nt2).trans (Kept.upd_in (List.mem_cons_of_mem _ (List.mem_cons_self ..))))
          have Ke : Kept [P3, s, c] H3 (upd (upd (upd H8 t (.tup us)) t2 (.tup [.str z, .ref t])) P3 (.lst (vs ++ [.ref t2]))) := (K8.trans Kd).new n6
          have vlen : vs.length = i := by
            have h1 := congrArg List.length em
            rw [List.length_map, List.length_take] at h1
            rw [dpAll_len dp, List.length_map]; omega
          refine ⟨P3, vs, _, rfl, rfl, (by rw [upd_ne n3t2, upd_ne n3t]; exact eP8), by rw [vlen]; exact small1000 (by omega), ⟨_, _, _, rfl⟩, ⟨_, ts ++ [(z, cs)], upd_same, ?_, ?_, ?_⟩, Ke.at en outn, (((S8.upd_new nt).upd_new nt2).upd ns3 nc3).mono (by omega), K3.trans Ke⟩
          · rw [List.map_append]
            refine dpAll_snoc (dpAll_same (msk_same Ke) dp) ?_
            have at3 : ∀ b o, b ≠ P3 → b ≠ s → b ≠ c → (upd (upd (upd H8 t (.tup us)) t2 (.tup [.str z, .ref t])) P3 (.lst (vs ++ [.ref t2]))) b = some o → msk [P3, s, c] (upd (upd (upd H8 t (.tup us)) t2 (.tup [.str z, .ref t])) P3 (.lst (vs ++ [.ref t2]))) b = some o := by
              intro b o h1 h2 h3 h4
              unfold msk
              rw [if_neg (by simp [h1, h2, h3])]
              exact h4
            refine .tup (xs := [.str z, .ref t]) (.inl (.inl (at3 _ _ n3t2.symm nst2.symm nct2.symm ?_))) (.cons (.str z) (.cons ?_ .nil))
            · rw [upd_ne n3t2.symm, upd_same]
            · refine .tup (xs := us) (.inl (.inl (at3 _ _ n3t.symm nst.symm nct.symm ?_))) ?_
              · rw [upd_ne n3t.symm, upd_ne ntt2, upd_same]
              · exact dpAll_same (msk_less (M := [P6, P3, s, c]) (by intro p hp; exact List.mem_cons_of_mem _ hp)) (dpAll_same (msk_same Kd) dpu)
          · rw [List.map_append, em, List.take_add_one, hz]; rfl
          · intro x hx
            rcases List.mem_append.mp hx with h | h
            · exact okc x h
            · rw [List.mem_singleton.mp h]
              refine ⟨⟨?_, ?_, ?_, okw, oky0⟩, ?_⟩
              · show cs.length ≤ n; omega
              · show (cs.map (·.1)).Nodup; rw [emu]; exact ndy
              · intro x hx
                exact oky x.1 (by rw [← emu]; exact List.mem_map.mpr ⟨x, hx, rfl⟩)
              · show 0 < cs.length; omega
    · obtain ⟨⟨y5, y6, y7, rfl⟩, ⟨vs, ts, eP, dp, em, okc⟩, en, S3, K3⟩ := hP
      have lzz : (zs.map V.str).length = zs.length := List.length_map ..
      rw [lzz] at em S3
      rw [List.take_length] at em
      have tl : ts.length = zs.length := by rw [← em, List.length_map]
      refine ⟨.ref P3, rfl, P3, vs, rfl, .inl ⟨.inl (.inl eP), fun t nt => ?_⟩⟩
      have n3t : P3 ≠ t := ne_of_none eP nt
      have nst := S3.nes nt
      have nct := S3.nec nt
      have Kf : Kept [P3, s, c] H3 (upd H3 t (.tup vs)) := Kept.upd_new nt
      refine q t ts _ (by omega) ⟨by rw [em]; exact ndz, fun x hx => okz x.1 (by rw [← em]; exact List.mem_map.mpr ⟨x, hx, rfl⟩), okc⟩ (K3.fresh nt ?_) ?_ ((S3.upd_new nt).mono (by omega)) ((K3.trans Kf).new n3)
      · intro b hb
        simp only [List.mem_cons, List.not_mem_nil, or_false] at hb
        rcases hb with rfl | rfl | rfl
        · exact n3t
        · exact nst
        · exact nct
      · refine .tup (xs := vs) (.inl (.inl ?_)) ?_
        · unfold msk
          rw [if_neg (by simp [nst.symm, nct.symm]), upd_same]
        · exact dpAll_same (msk_less (M := [P3, s, c]) (by intro p hp; exact List.mem_cons_of_mem _ hp)) (dpAll_same (msk_same Kf) dp)
end
end TT

set_option Elab.async false
set_option linter.all false
set_option maxRecDepth 100000
namespace TT
open PySem PySem.Spec PyProof.Rows L2
/-! ### how many unlike texts a list has -/
def addNew (acc : List Str) (v : Str) : List Str := if v ∈ acc then acc else acc ++ [v]
def unlike (xs : List Str) : List Str := xs.foldl addNew []
theorem unlike_snoc (xs : List Str) (v : Str) : unlike (xs ++ [v]) = addNew (unlike xs) v := by
  unfold unlike
  rw [List.foldl_append]
  rfl
theorem addNew_mem (acc : List Str) (v k : Str) : k ∈ addNew acc v ↔ k ∈ acc ∨ k = v := by
  unfold addNew
  by_cases h : v ∈ acc
  · rw [if_pos h]
    exact ⟨.inl, fun q => q.elim id fun e => by rw [e]; exact h⟩
  · rw [if_neg h, List.mem_append, List.mem_singleton]
theorem addNew_len (acc : List Str) (v : Str) : (addNew acc v).length = if v ∈ acc then acc.length else acc.length + 1 := by
  unfold addNew
  split <;> simp
/-- the texts are unlike just where the set is as long as the list -/
theorem unlike_spec : ∀ (n : Nat) (xs : List Str), xs.length = n → (∀ k, k ∈ unlike xs ↔ k ∈ xs) ∧ (unlike xs).length ≤ n ∧ ((unlike xs).length = n ↔ xs.Nodup)
  | 0, xs, h => by
    have e : xs = [] := List.length_eq_zero_iff.mp h
    subst e
    exact ⟨fun _ => Iff.rfl, Nat.le_refl _, by simp [unlike]⟩
  | n + 1, xs, h => by
    have hne : xs ≠ [] := fun z => by rw [z] at h; cases h
    have e : xs = xs.dropLast ++ [xs.getLast hne] := (List.dropLast_concat_getLast hne).symm
    have hl : xs.dropLast.length = n := by rw [List.length_dropLast]; omega
    generalize xs.getLast hne = v at e
    generalize xs.dropLast = ys at e hl
    subst e
    obtain ⟨h1, h2, h3⟩ := unlike_spec n ys hl
    rw [unlike_snoc]
    refine ⟨fun k => ?_, ?_, ?_⟩
    · rw [addNew_mem, h1, List.mem_append, List.mem_singleton]
    · rw [addNew_len]; split <;> omega
    · rw [addNew_len, List.nodup_append]
      by_cases hv : v ∈ unlike ys
      · rw [if_pos hv]
        have hv' := (h1 v).mp hv
        constructor
        · intro z; omega
        · intro ⟨_, _, z⟩
          exact absurd rfl (z v hv' v (List.mem_singleton.mpr rfl))
      · rw [if_neg hv]
        have hv' : v ∉ ys := fun z => hv ((h1 v).mpr z)
        constructor
        · intro z
          refine ⟨h3.mp (by omega), by simp, fun a ha b hb e => hv' ?_⟩
          rw [List.mem_singleton.mp hb] at e
          rw [← e]; exact ha
        · intro ⟨z, _, _⟩
          rw [h3.mpr z]
theorem unlike_nodup (xs : List Str) : decide (((unlike xs).length : Int) = (xs.length : Int)) = decide (xs.Nodup) := by
  obtain ⟨_, _, h⟩ := unlike_spec _ xs rfl
  by_cases e : xs.Nodup
  · rw [decide_eq_true e, h.mpr e]; exact decide_eq_true rfl
  · rw [decide_eq_false e]
    exact decide_eq_false fun z => e (h.mp (by omega))

/-! ### the set's own loop, texts drawn from anything that is walked -/
section
variable {prog : Program} {w : World} {A : Around} {Rs : Result → Shared → Prop} {I : Addr} {fp wr : List Addr} {G : Array GenState → Array GenState → Prop} {n : Nat} {Y : Nat → Value → Prop} {St : Nat → Shared → Prop}
abbrev HasSet (prog : Program) (w : World) (h : Heap) (a : Addr) (xs : List Str) : Prop := h.SetOf (PySem.strKind prog w) a (fun k => decide (k ∈ unlike xs)) (unlike xs).length
theorem draw_texts (W : WalksS prog w A.in1 I fp wr G n Y St) (a : Addr) (ha : a ∉ fp) (xs : List Str) (hn : xs.length = n) (hb : n + 1 < scanBound) (hv : ∀ i v, Y i v → ∃ t x, xs[i]? = some x ∧ v = .str x t) :
    ∀ (m i : Nat) (s : Shared), i + m = n → St i s → HasSet prog w s.heap a (xs.take i) →
      (∀ s', Moved (a :: wr) G s s' → HasSet prog w s'.heap a xs → Rs (.ok (.ret .none)) s') → codeAny (model prog w) A (.builtin "set.update.loop" ⟨[.ref a, .ref I], []⟩) Rs s := by
  have haw : a ∉ wr := fun z => ha (W.sub _ z)
  have more : ∀ b ∈ wr, b ∈ a :: wr := fun b z => List.mem_cons_of_mem _ z
  intro m
  induction m with
  | zero =>
    intro i s him hst hS hR
    obtain rfl : i = n := by omega
    rw [← hn, List.take_length] at hS
    refine codeAny_builtin PyProof.Rows.F.entry_set_update_loop ?_
    rw [Around.under_plainId PyProof.Rows.F.plain_set_update_loop _]
    show wpAny _ A.in1 (pyNext (.ref I) >>= _) _ _ s
    refine wpAny_bind (W.done s _ _ hst fun s' mv => ?_)
    show wpAny _ A.in1 (ret Value.none) _ _ s'
    refine wpAny_pure (hR s' (mv.mono more) ?_)
    obtain ⟨o, es, ep, t, ho, r⟩ := hS
    exact ⟨o, es, ep, t, mv.heap a _ haw ho, r⟩
  | succ m ih =>
    intro i s him hst hS hR
    refine codeAny_builtin PyProof.Rows.F.entry_set_update_loop ?_
    rw [Around.under_plainId PyProof.Rows.F.plain_set_update_loop _]
    show wpAny _ A.in1 (pyNext (.ref I) >>= _) _ _ s
    refine wpAny_bind (W.item i s _ _ (by omega) hst fun v s' hy hst' mv => ?_)
    obtain ⟨t, x, hx, rfl⟩ := hv i v hy
    have hS' : HasSet prog w s'.heap a (xs.take i) := by
      obtain ⟨o, es, ep, tb, ho, r⟩ := hS
      exact ⟨o, es, ep, tb, mv.heap a _ haw ho, r⟩
    show wpAny _ A.in1 (holding [Value.str x t] (setAdd a (.str x t)) >>= _) _ _ s'
    refine wpAny_bind (wpAny_holding ?_)
    unfold setAdd
    refine wpAny_holding (wpAny_bind ((PySem.strKind prog w).pyHash (k := x) (strKind_is _ _ _ _) ?_))
    have len : (unlike (xs.take i)).length ≤ i := by
      have q := (unlike_spec _ (xs.take i) rfl).2.1
      rw [List.length_take] at q
      omega
    refine wpAny_setAddHashed_of (knd := PySem.strKind prog w) (s := { s' with toks := s'.toks + 1 }) (strKind_is _ _ _ _) rfl hS' (by omega) fun h' sb hS2 => ?_
    have et : xs.take (i + 1) = xs.take i ++ [x] := by rw [List.take_add_one, hx]; rfl
    have hS3 : HasSet prog w h' a (xs.take (i + 1)) := by
      refine PyProof.Rows.SetOf_congr hS2 (fun k => ?_) ?_
      · rw [et, unlike_snoc]
        by_cases h1 : k ∈ unlike (xs.take i)
        · simp [addNew_mem, h1]
        · simp [addNew_mem, h1]
      · rw [et, unlike_snoc, addNew_len]
        by_cases h1 : x ∈ unlike (xs.take i)
        · simp [h1]
        · simp [h1]
    refine wpAny_pure ⟨plainId_quiet PyProof.Rows.F.plain_set_update_loop _, ih (i + 1) _ (by omega) (W.frame _ s' _ _ hst' (Nat.le_succ _) fun b hb o e => ?_) hS3 fun s2 mv2 hS4 => ?_⟩
    · rw [sb.2 b fun z => ha (by rw [← z]; exact hb)]; exact e
    · refine hR s2 (Moved.trans W.gtrans ((mv.mono more).then_heap (Nat.le_succ _) fun b o hb e => ?_) mv2) hS4
      rw [sb.2 b fun z => hb (by rw [z]; exact List.mem_cons_self)]; exact e
end
section
variable {prog : Program} {w : World} {A : Around} {E : Value → Shared → Prop} {s : Shared}
/-- what a new set object is -/
abbrev bareSet (led : Bool) : Obj := { cls := .type "set", dict := none, data := .set #[] 0 (.fresh 0 0 led) }
theorem texts_at {us : List Value} {xs : List Str} (r : Vals (xs.map V.str) us) (i : Nat) (v : Value) (e : us[i]? = some v) : ∃ t x, xs[i]? = some x ∧ v = .str x t := by
  have hl : xs.length = us.length := by rw [← r.length, List.length_map]
  have hi : i < xs.length := by rw [hl]; exact (List.getElem?_eq_some_iff.mp e).1
  obtain ⟨u, h1, t, h2⟩ := r.get (i := i) (x := .str xs[i]) (by rw [List.getElem?_map, List.getElem?_eq_getElem hi]; rfl)
  rw [e] at h1
  cases h1
  exact ⟨t, xs[i], List.getElem?_eq_getElem hi, h2⟩
set_option maxHeartbeats 4000000 in
/-- set(xs), xs a list of texts -/
theorem call_set_texts {l : Addr} {items : Array Value} {xs : List Str} {Q : Value → Shared → Prop} (hh : A.handled = none) (hl : s.heap.IsList l items) (hi : Vals (xs.map V.str) items.toList) (hb : xs.length + 1 < scanBound)
    (q : ∀ (h' : Heap) (tk : Nat), HasSet prog w h' s.heap.objs.size xs → (∀ b o, b < s.heap.objs.size → s.heap.get? b = some o → h'.get? b = some o) → Q (.ref s.heap.objs.size) { s with heap := h', toks := tk }) :
    wpAny (model prog w) A (call (.type "set") [.ref l]) Q E s := by
  have size : xs.length = items.size := by rw [← Array.length_toList, ← hi.length, List.length_map]
  obtain ⟨c, tl, hmro⟩ := PySem.F.called_set.mro
  have g1 := PySem.F.called_set.made
  have g2 := PySem.F.called_set.sub
  have g3 := PySem.F.called_set.notType
  have g4 := PySem.F.called_set.canCreate
  have g5 := PySem.F.typeCall_set_1 (.ref l)
  refine wpAny_call (codeAny_of_tree ?_)
  show wpAny _ _ (callAny (.type "set") _) _ _ _
  refine wpAny_pure ⟨Code.quiet_builtin _ (by decide +kernel), codeAny_builtin PySem.F.entry_type_call ?_⟩
  rw [Around.under_plain (weight_type_call_type "set" [.ref l] []) rfl]
  repeat (any_goals (first | assumption | wp_step))
  -- the new object
  refine codeAny_mono (code_set_new_1 (.ref l) (E := E) (Q₁ := fun v s1 => ∃ led : Bool, v = .ref s.heap.objs.size ∧ s1 = { s with heap := s.heap.push (bareSet led) }) fun led => ⟨led, rfl, rfl⟩) fun r s1 hr => ?_
  rcases r with e | fl
  · exact hr
  cases fl with
  | next => exact hr.elim
  | brk => exact hr.elim
  | cont => exact hr.elim
  | ret v =>
    obtain ⟨led, rfl, rfl⟩ := hr
    have gN : (s.heap.push (bareSet led)).get? s.heap.objs.size = some (bareSet led) := Heap.get?_push_size _ rfl
    have gT : Shared.TypeIs { s with heap := s.heap.push (bareSet led) } (.ref s.heap.objs.size) "set" := ⟨_, gN, rfl⟩
    have g6 := PySem.F.called_set.init.lookup
    have g7 := PySem.F.called_set.init.bind (.ref s.heap.objs.size)
    repeat (any_goals (first | assumption | wp_step))
    -- its __init__
    refine codeAny_mono (codeAny_call_builtin (R := wants (fun r s2 => r = .none ∧ ∃ h' tk, s2 = { s with heap := h', toks := tk } ∧ HasSet prog w h' s.heap.objs.size xs ∧ (∀ b o, b < s.heap.objs.size → s.heap.get? b = some o → h'.get? b = some o)) E)
      PySem.F.called_set.init.plain PySem.F.entry_set_init (check_set_init_1 gT ?_)) fun r2 s2 hr2 => ?_
    · obtain ⟨⟨oc, od, oda, osl⟩, go, hc, nl, hd⟩ := hl
      simp only at hc hd
      subst hc
      subst hd
      have go' : (s.heap.push (bareSet led)).get? l = some { cls := .type "list", dict := od, data := .seq items nl, slots := osl } := Heap.get?_push_of_some _ go
      have g8 := PySem.F.sub_list_set
      have g9 := PySem.F.sub_list_frozenset
      have g10 : (Value.type "list" == Value.type "dict") = false := by decide
      have gl : (s.heap.push (bareSet led)).IsList l items := ⟨_, go', rfl, nl, rfl⟩
      unfold Builtin.«set.__init__» noKeywords Builtin.Frozenset.updateFrom
      generalize hPI : pyIter = PI
      wp_walk
      subst hPI
      refine wpAny_pyIter_list gl (wpAny_bind (wpAny_runValue ?_))
      have ll : l < s.heap.objs.size := Heap.lt_size go
      have sz1 : (s.heap.push (bareSet led)).objs.size = s.heap.objs.size + 1 := Heap.size_push ..
      have a1 : l ≠ (s.heap.push (bareSet led)).objs.size := by rw [sz1]; exact Nat.ne_of_lt (Nat.lt_succ_of_lt ll)
      have a2 : s.heap.objs.size ∉ [(s.heap.push (bareSet led)).objs.size, l] := by
        rw [sz1]
        intro z
        rcases List.mem_cons.mp z with z | z
        · exact Nat.ne_of_lt (Nat.lt_succ_self _) z
        · exact Nat.ne_of_gt ll (List.mem_singleton.mp z)
      have a3 : A.in1.in1.in1.handled = none := by simp [hh]
      refine draw_texts (xs := xs) ((Walks.list a3 _ l a1 items).toS) s.heap.objs.size a2 size (by rw [← size]; exact hb) (fun i v e => texts_at hi i v (by rw [Array.getElem?_toList]; exact e)) items.size 0 _ (by omega) ⟨⟨_, Heap.get?_push_size _ rfl, rfl, rfl⟩, gl.push _⟩ ?_ ?_
      · refine PyProof.Rows.SetOf_congr ((PyProof.Rows.setObjOf_fresh (knd := PySem.strKind prog w) led).setOf (Heap.get?_push_of_some _ gN) (by unfold scanBound; omega)) (fun k => ?_) rfl
        simp [unlike]
      · rintro ⟨h', g', d', tk', os'⟩ mv hS
        obtain rfl : g' = s.gens := mv.gens
        obtain rfl : d' = s.drawn := mv.drawn
        obtain rfl : os' = s.os := mv.os
        show wpAny _ _ _ _ _ _
        refine wpAny_pure ?_
        show wpAny _ _ (ret Value.none) _ _ _
        refine wpAny_pure ⟨rfl, h', tk', rfl, hS, fun b o lt e => mv.heap b o ?_ (Heap.get?_push_of_some _ (Heap.get?_push_of_some _ e))⟩
        rw [sz1]
        intro z
        rcases List.mem_cons.mp z with z | z
        · exact Nat.ne_of_lt lt z
        · exact Nat.ne_of_lt (Nat.lt_succ_of_lt lt) (List.mem_singleton.mp z)
    · rcases r2 with e | fl2
      · exact hr2
      cases fl2 with
      | next => exact hr2.elim
      | brk => exact hr2.elim
      | cont => exact hr2.elim
      | ret r =>
        obtain ⟨rfl, h', tk, rfl, hS, keep⟩ := hr2
        repeat (any_goals (first | assumption | wp_step))
        exact q _ _ hS keep
end
/-- len(set(xs)), xs a list of texts -/
def tLenUnlike (K : PySem.W.Frag) (ta : TE) : TE := fun σ H Q => ta σ H fun x H1 => ∃ (l : Addr) (xs : List Str), x = .ref l ∧ SqL K H1 l (xs.map V.str) ∧ xs.length ≤ 1000 ∧ Q (.int (unlike xs).length) H1
theorem pe_lenUnlike {X : Cx} {a : Expr} {ta : TE} {p p2 q pos : Pos} (hm : X.mg "len" = none) (hm2 : X.mg "set" = none) (ha : PE X a ta) (hg : Gl X "len" := by rfl) (hg2 : Gl X "set" := by rfl) (hc : X.calm = true := by rfl)
    (na : starEach [a] X.env = (false, eval a X.env) :: starEach [] X.env := by rfl) : PE X (.Call (.Name "len" p) [.Call (.Name "set" p2) [a] [] q] [] pos) (tLenUnlike X.K ta) := by
  refine ⟨fun pins s σ H Q I h => ?_⟩
  refine Call_ (ld_blt I hg hm boot_len (PyProof.Rows.callWith_builtin1 (PyProof.Rows.args_cons ?_ rfl) rfl rfl))
  refine Call_ (ld_blt I hg2 hm2 boot_set ?_)
  refine PyProof.Rows.callWith_type1 (PyProof.Rows.args_cons (thn (ha.run pins s σ H _ I h) fun v s1 ⟨x, H1, I1, r1, q1⟩ => PyProof.Rows.args_nil ?_) na) na rfl
  obtain ⟨l, xs, rfl, hq, hl, q1⟩ := q1
  cases r1
  obtain ⟨its, r, pl, hz⟩ := I1.list hq
  refine call_set_texts (I1.ok.hd hc) pl.isList (by simpa using r) (by unfold scanBound; omega) fun h' tk hS hk => PyProof.Rows.args_nil ?_
  obtain ⟨o, es, ep, t, ho, hex, hd, _, _, _, hf, hn⟩ := hS
  have I2 : Inv X pins σ H1 { s1 with heap := h', toks := tk } := I1.kept fun b o e => hk b o (Heap.lt_size e) e
  have lu := (unlike_spec _ xs rfl).2.1
  exact call_len_set ho hex hd hf (by rw [hn] <;> omega) ⟨.int (unlike xs).length, H1, I2.tok _, ⟨_, by rw [hn]⟩, q1⟩
end TT

set_option Elab.async false
set_option linter.all false
set_option maxRecDepth 100000
namespace TT
open PySem PySem.Spec PyProof.Rows L2
/-! ### repr of data -/
def rRepr (K : PySem.W.Frag) : List V → Hp → VK → Prop := fun xs H Q => ∃ (v : V) (d : PyData), xs = [v] ∧ Dp K H v d ∧ d.showable = true ∧ d.hasDict = false ∧ d.depth ≤ 60 ∧ d.shown.length ≤ sizeLine ∧ Q (.str d.shown) H
section
variable {X : Cx} {k : Nat}
theorem call_repr_d (hg : X.A.guards = some []) (hr : Room k X.A) : CallR X (.builtin "repr") (rRepr X.K) := by
  intro pins s σ H xs us Q I r h
  obtain ⟨v, d, rfl, hd, h1, h2, h3, h4, q⟩ := h
  obtain ⟨u, rfl, rv⟩ := vals1 r
  obtain ⟨as, rd⟩ := Dp.reads I d v u hd rv
  have hu := hr.units
  have big : ∀ a, u = .ref a → wpAny (model X.prog X.w) X.A (call (.builtin "repr") [u]) (EP X pins σ Q) X.xe s := by
    intro a e
    subst e
    refine repr_of_reads' rd h1 (PyData.noDict_hsm h2) hg (by omega) (fun _ _ e => e) (fun h' t tk hk => ?_) h4
    exact ⟨.str d.shown, H, I.kept (t' := tk) hk, ⟨t, rfl⟩, q⟩
  cases hd with
  | non => cases rv; exact P.repr_of_none ⟨.str _, H, I.tok _, ⟨_, rfl⟩, q⟩
  | bl b => cases rv; exact P.repr_of_bool ⟨.str _, H, I.tok _, ⟨_, by cases b <;> rfl⟩, q⟩
  | int i => obtain ⟨t, rfl⟩ := rv; exact P.repr_of_int (of_decide_eq_true h1) ⟨.str _, H, I.tok _, ⟨_, rfl⟩, q⟩
  | str x => obtain ⟨t, rfl⟩ := rv; exact P.repr_of_str ⟨.str _, H, I.tok _, ⟨_, rfl⟩, q⟩ h4
  | lst _ _ => cases rv; exact big _ rfl
  | tup _ _ => cases rv; exact big _ rfl
end
/-! ### a def's promise where nothing is being shown -/
structure FnG (P : Program) (w : World) (K : PySem.W.Frag) (mg : Str → Option Value) (base : Heap) (CX : CXT) (k : Nat) (f : Addr) (fd : FuncData) (ps : List Str) (sp : Sp) : Prop where
  len : ∀ vs H Q E, sp vs H Q E → vs.length = ps.length
  run : ∀ (A : Around) (outer : List Env) (s : Shared) (H : Hp) (args : Args) (us : List Value) (vs : List V) (Q : VK) (E : XK), Room k A → A.guards = some [] → Env0 P w K mg base A outer s H → BindsTo s fd args (ps.zip us) → Vals vs us → sp vs H Q E →
    codeAny (model P w) A (.call (.ref f) args) (CR CX outer P w H s Q E) s
section
variable {P : Program} {w : World} {K : PySem.W.Frag} {mg : Str → Option Value} {base : Heap} {CX : CXT} {k : Nat}
theorem FnG.of {f : Addr} {fd : FuncData} {ps : List Str} {sp : Sp} (F : FnOk P w K mg base CX k f fd ps sp) : FnG P w K mg base CX k f fd ps sp :=
  ⟨F.len, fun A outer s H args us vs Q E hr _ e0 hb r h => F.run A outer s H args us vs Q E hr e0 hb r h⟩
/-- a def by its body, where nothing is being shown -/
theorem okG {x qual : Str} {st : Stmt} {f : Addr} {fd : FuncData} {N ps : List Str} {sp : Sp} (F : Fun K x qual st f fd) (S : FnScope N ps (defScope st)) (len : ∀ vs H Q E, sp vs H Q E → vs.length = ps.length)
    (body : ∀ (cdv : Value) (A : Around) (outer : List Env) (s : Shared) (H : Hp) (vs : List V) (Q : VK) (E : XK), Room k (A.deeper (envOfC qual (defScope st) s.heap.objs.size f cdv)) → (A.deeper (envOfC qual (defScope st) s.heap.objs.size f cdv)).guards = some [] → sp vs H Q E →
      ∃ t, PSs (cxOf CX0 P w K mg base N qual (defScope st) f cdv A outer s H E).nox (defBody st) t ∧ t { nx := fun _ H' => Q .non H', rt := Q } (L2.start N vs) H) : FnG P w K mg base CX0 (k + 1) f fd ps sp := by
  obtain ⟨oc, od, kV, doc, pm, an, cdv, ct, osl, rfl, lk, hcd⟩ := F.ex
  refine ⟨len, fun A outer s H args us vs Q E hr hg e0 hb r hsp => ?_⟩
  have same : ∀ b o, base.get? b = some o → s.heap.get? b = some o := fun b o e => (e0.bs b o e).1
  have KX : K.In s.heap := e0.mod.kin.keeps same
  have lim : s.heap.NoLimit := e0.mod.nolimit.keeps same
  refine codeAny_call_function hr.depth (KX _ _ lk) rfl S.co S.gen rfl (PySem.W.codeRec_of KX hcd) (hb _ _ _ _ ?_)
  refine wpAny_newFunctionEnv_cells S.kind (fun y hy => ?_) fun env he s1 x => ?_
  · rcases S.par y.1 (List.of_mem_zip (show (y.1, y.2) ∈ ps.zip us from hy)).1 with q | q
    · exact .inl q
    · exact .inr ⟨q, PySem.W.cellsFrom_some _ _ _ (.inl q)⟩
  · subst he
    refine ⟨lim.keeps x.toInCall.keep, codeAny_func ?_⟩
    obtain ⟨t, ht, hq⟩ := body cdv A outer s H vs Q E (hr.deeper _) hg hsp
    have I := inv_start (CX := CX0) (E := E) S hr.hd e0 (len _ _ _ _ hsp) r x
    refine wpAny_mono (ht.nox.run [] s1 (L2.start N vs) H _ I hq) (fun fl s' hs => ?_) fun e s' hs => hs
    cases fl with
    | next => exact let ⟨_, H', J, q⟩ := hs; ⟨V.non, H', J.os, J.bare, J.base, J.hok, rfl, q⟩
    | ret u => exact let ⟨v, _, H', J, rv, q⟩ := hs; ⟨v, H', J.os, J.bare, J.base, J.hok, rv, q⟩
    | brk => exact let ⟨_, _, _, q⟩ := hs; False.elim q
    | cont => exact let ⟨_, _, _, q⟩ := hs; False.elim q
end
/-! ### its call -/
def DefG (P : Program) (w : World) (K : PySem.W.Frag) (mg : Str → Option Value) (base : Heap) (k : Nat) (x : Str) (ps : List Str) (sp : Sp) : Prop :=
  ∃ f fd, mg x = some (.ref f) ∧ PySem.W.keepIn K (.ref f) = true ∧ Binds K fd ps [] ∧ FnG P w K mg base CX0 k f fd ps sp
theorem DefG.mk {P : Program} {w : World} {K : PySem.W.Frag} {mg : Str → Option Value} {base : Heap} {k : Nat} {x : Str} {ps : List Str} {sp : Sp} {f : Addr} {fd : FuncData} (h1 : mg x = some (.ref f)) (h2 : PySem.W.keepIn K (.ref f) = true) (h3 : Binds K fd ps []) (h4 : FnG P w K mg base CX0 k f fd ps sp) : DefG P w K mg base k x ps sp := ⟨f, fd, h1, h2, h3, h4⟩
section
variable {X : Cx} {k j : Nat} {x : Str} {ps : List Str} {sp : Sp} {p pos : Pos} {e : Expr} {es : List Expr} {t : TA}
theorem pe_ownG (D : DefG X.prog X.w X.K X.mg X.base k x ps sp) (hA : X.A.guards = some []) (hr : Room j X.A) (ha : PA X (e :: es) t) (hkj : k ≤ j := by decide) (hg : Gl X x := by rfl) (hdb : (x == ("__debug__" : Str)) = false := by decide)
    (he : starEach (e :: es) X.env = (false, eval e X.env) :: starEach es X.env := by rfl) (hpl : (backTo pos (starEach es X.env)).any (·.1) = false := by rfl) :
    PE X (.Call (.Name x p) (e :: es) [] pos) (tCall sp [] E0 t) := by
  obtain ⟨f, fd, hm, hk, hb, F⟩ := D
  refine ⟨fun pins s σ H Q I h => wpAny_Call_Name_kw (ld_glob I hg hm ?_ hdb)⟩
  refine PySem.W.callWith_K (h₀ := X.base) I.ok.mod.kin hk (thn (ha.run pos pins s σ H _ I h) fun us s1 ⟨vs, H1, I1, r, q⟩ => ⟨I1.kIn, ?_⟩) he hpl
  have q' : sp vs H1 Q E0 := by rw [← List.append_nil vs]; exact q
  have hl : us.length = ps.length := by rw [← r.length]; exact F.len _ _ _ _ q'
  have hbd := hb s1 us I1.kIn (by rw [List.append_nil]; exact hl)
  rw [List.append_nil] at hbd
  refine wpAny_call (codeAny_mono (F.run X.A X.stack s1 H1 ⟨us, []⟩ us vs Q E0 (hr.mono hkj) hA I1.env0 hbd r q') fun rs s' hq => ?_)
  rcases rs with err | fl
  · exact False.elim hq
  · cases fl with
    | ret u => exact I1.after hq
    | next => exact False.elim hq
    | brk => exact False.elim hq
    | cont => exact False.elim hq
end
end TT

set_option Elab.async false
set_option linter.all false
set_option maxRecDepth 100000
namespace TT
open PySem PySem.Spec PyProof.Rows L2
/-! ### the law's call from the caller's own frame, where nothing is being shown -/
/-- what is tracked ahead of the call: the script alone, or nothing where it is one of the module's objects -/
def scr (a : Addr) (o : Obj) (xs : List V) (own : Bool) : Hp := fun b => if own = true ∧ b = a then some (.frz o (.lst xs)) else none
theorem scr_only (a : Addr) (o : Obj) (xs : List V) (own : Bool) : Only (scr a o xs own) := fun b => by
  unfold scr
  split
  · exact .inr ⟨_, _, rfl⟩
  · exact .inl rfl
theorem scr_at {a b : Addr} {o : Obj} {xs : List V} {own : Bool} {u : HO} (h : scr a o xs own b = some u) : own = true ∧ b = a ∧ u = .frz o (.lst xs) := by
  unfold scr at h
  split at h
  · rename_i z
    exact ⟨z.1, z.2, (Option.some.inj h).symm⟩
  · cases h
theorem law_callG {P : Program} {w : World} {K : PySem.W.Frag} {mg mb : Str → Option Value} {k : Nat} {fa a : Addr} {fd : FuncData} {x : Str} {sp : Sp} {s1 : Shared} {vs : List Value} {ns : List Int}
    (KX : K.In s1.heap) (hns : s1.heap.Ns mainGlobals mg) (hb : s1.heap.Ns builtinsNs mb) (hbb : ∀ x : Str, x ≠ "__name__" → mb x = bootBuiltins x) (lim : s1.heap.NoLimit) (bare : s1.gens = #[])
    (ha : s1.heap.get? a = some { cls := .type "list", data := .seq vs.toArray }) (hi : IntsAre vs ns) (hl : ns.length ≤ sizeLine) (hr : Room k callerA)
    (F : ∀ base : Heap, K.In base → base.Ns mainGlobals mg → FnG P w K mg base CX0 k fa fd [x] sp) (bind : ∀ (s : Shared) (u : Value), BindsTo s fd ⟨[u], []⟩ [(x, u)])
    (hsp : ∀ H : Hp, Only H → SqL K H a (ns.map V.int) → sp [.ref a] H (fun v _ => v = .bl true) E0) :
    codeAny (model P w) callerA (.call (.ref fa) ⟨[.ref a], []⟩) (fun r s' => r = .ok (.ret (.bool true)) ∧ OldK s1.heap s'.heap ∧ s'.os = s1.os ∧ AllBare s'.gens) s1 := by
  have rv := vals_ints hi
  have lv := hi.length
  obtain ⟨own, hown, hK⟩ : ∃ own : Bool, (own = true → K.lookup a = none) ∧ (own = false → SqL K (scr a { cls := .type "list", data := .seq vs.toArray } (ns.map V.int) false) a (ns.map V.int)) := by
    cases e : K.lookup a with
    | none => exact ⟨true, ⟨fun _ => rfl, fun z => absurd z (by decide)⟩⟩
    | some o =>
      refine ⟨false, ⟨fun z => absurd z (by decide), fun _ => ?_⟩⟩
      have q := KX a o e
      rw [ha] at q
      cases q
      exact .inr ⟨_, vs.toArray, _, e, rfl, rfl, rfl, by rw [List.size_toArray, lv]; exact hl, by simpa using rv⟩
  generalize hH : scr a { cls := .type "list", data := .seq vs.toArray } (ns.map V.int) own = H
  have at' : ∀ {b u}, H b = some u → own = true ∧ b = a ∧ u = .frz { cls := .type "list", data := .seq vs.toArray } (.lst (ns.map V.int)) := fun {b u} e => scr_at (by rw [hH]; exact e)
  have hO : Only H := by rw [← hH]; exact scr_only a _ _ own
  have hS : SqL K H a (ns.map V.int) := by
    cases e : own with
    | false =>
      rw [← hH, e]
      exact hK e
    | true =>
      refine .inl (.inr ⟨{ cls := .type "list", data := .seq vs.toArray }, ?_⟩)
      rw [← hH, e]
      exact if_pos ⟨rfl, rfl⟩
  have hok : HOk P w H s1.heap := fun b u e => by
    obtain ⟨_, rfl, rfl⟩ := at' e
    exact ⟨ha, by rw [List.length_map]; exact hl, vs, _, rv, ha⟩
  -- what is not the script stands in the heap that is leant on
  have bare' : ∀ {b o es ep}, s1.heap.get? b = some o → o.data = .dict es ep → H b = none := fun {b o es ep} e d => by
    cases q : H b with
    | none => rfl
    | some u =>
      obtain ⟨_, rfl, _⟩ := at' q
      rw [ha] at e
      cases e
      cases d
  have ns' : ∀ {b m}, s1.heap.Ns b m → (hidT s1.heap H).Ns b m := fun {b m} ⟨o, es, ep, e, d, r⟩ => ⟨o, es, ep, hidT_get e (bare' e d), d, r⟩
  have kb : K.In (hidT s1.heap H) := fun b o e => hidT_get (KX b o e) (by
    cases q : H b with
    | none => rfl
    | some u =>
      obtain ⟨z, rfl, _⟩ := at' q
      rw [hown z] at e
      cases e)
  have e0 : Env0 P w K mg (hidT s1.heap H) callerA [] s1 H := ⟨rfl, ⟨kb, ns' hns, ⟨mb, ns' hb, hbb⟩, let ⟨mc, h1, h2⟩ := lim; ⟨mc, ns' h1, h2⟩⟩, fun b o e => of_hidT e, Nat.le_of_eq (hidT_size _ _), trivial,
    fun b z => absurd (show b ∈ ([] : List Addr) from z) (by simp), hok, .of_eq bare⟩
  refine codeAny_mono ((F _ kb (ns' hns)).run callerA [] s1 H ⟨[.ref a], []⟩ [.ref a] [.ref a] _ _ hr rfl e0 (bind s1 (.ref a)) (.cons rfl .nil) (hsp H hO hS)) fun r s' h => ?_
  rcases r with err | fl
  · exact False.elim h
  cases fl with
  | next => exact False.elim h
  | brk => exact False.elim h
  | cont => exact False.elim h
  | ret u =>
    obtain ⟨v, H', os, bg, un, ok', r', q⟩ := h
    obtain rfl : v = .bl true := q
    obtain rfl : u = Value.bool true := r'
    refine ⟨rfl, OldK.of_keep fun b o e => ?_, os, bg⟩
    cases q : H b with
    | none => exact un.keep b o e q (fun z => absurd (show b ∈ ([] : List Addr) from z) (by simp)) (by simp)
    | some u =>
      obtain ⟨_, rfl, rfl⟩ := at' q
      rw [ha] at e
      cases e
      exact (ok' _ _ (un.frzs _ _ _ q)).1
/-- a law by its promise: L2.walk_ofK, where nothing is being shown -/
theorem walk_ofG {l : PySem.W.OpenLaw} {n k : Nat} {q : Program} {loose : List Str} {XP : (Str → Option Value) → Heap → Prop} {YP : World → Heap → Prop} {d : DefRec} {K : Params → PySem.W.Frag} {sp : PySem.W.Frag → Sp} {x : Str}
    (hn : l.most = some n) (hn2 : n ≤ sizeLine) (hdf : d.params.defaults = []) (hr : Room k callerA) (hY : ∀ (w : World) (h : Heap), YP w h → (K w.params).In h)
    (F : ∀ (w : World) (mg : Str → Option Value) (fa : Addr) (h : Heap), (K w.params).In h → h.Ns mainGlobals mg → mg d.name = some (.ref fa) →
      ∃ fd : FuncData, (∀ (s : Shared) (u : Value), BindsTo s fd ⟨[u], []⟩ [(x, u)]) ∧
        ∀ base : Heap, (K w.params).In base → base.Ns mainGlobals mg → FnG l.prog w (K w.params) mg base CX0 k fa fd [x] (sp (K w.params)))
    (hsp : ∀ (K : PySem.W.Frag) (H : Hp) (a : Addr) (ns : List Int), ns.length ≤ n → Only H → SqL K H a (ns.map V.int) → sp K [.ref a] H (fun v _ => v = .bl true) E0) :
    PySem.W.WalkO q loose XP YP l.row.toRowW d [] (fun f vs => PySem.call f vs) := by
  refine Att.attach_call hn hdf fun w s0 s1 mg mb fa o pm cd doc a vs ns G Y ho hd hcd hmg hobj hints hlen hg => ?_
  have KX := hY w _ Y
  obtain ⟨fd, hb, hF⟩ := F w mg fa _ KX G.T.g hmg
  exact law_callG KX G.T.g G.T.b G.T.builtins G.T.nolimit hg hobj hints (Nat.le_trans hlen hn2) hr hF hb fun H hO hS => hsp (K w.params) H a ns hlen hO hS
end TT

set_option Elab.async false
set_option linter.all false
set_option maxRecDepth 100000
namespace TT
open PySem PySem.Spec PyProof.Rows L2
/-! ### what is told of data -/
def tyN : PyData → String
  | .none => "NoneType"
  | .bool _ => "bool"
  | .int _ => "int"
  | .str _ => "str"
  | .list _ => "list"
  | .tuple _ => "tuple"
  | .dict _ => "dict"
theorem dp_ty {K : PySem.W.Frag} {H : Hp} {v : V} {d : PyData} (h : Dp K H v d) : TyX K H v (.type (tyN d)) := by
  cases h with
  | non => exact .base .non
  | bl b => exact .base (.bl b)
  | int i => exact .base (.int i)
  | str x => exact .base (.str x)
  | lst h _ =>
    rcases h with (h | ⟨o, h⟩) | ⟨o, _, _, h, c, _⟩
    · exact .base (.lst h)
    · exact .base (.frz h)
    · exact .kList h c
  | tup h _ =>
    rcases h with (h | ⟨o, h⟩) | ⟨o, _, _, h, c, _⟩
    · exact .base (.tup h)
    · exact .fTuple h
    · exact .kTuple h c
def isIB : PyData → Bool
  | .int _ | .bool _ => true
  | _ => false
def isBB : PyData → Bool
  | .bool _ => true
  | _ => false
def isSB : PyData → Bool
  | .str _ => true
  | _ => false
def isTB : PyData → Bool
  | .tuple _ => true
  | _ => false
def isLB : PyData → Bool
  | .list _ => true
  | _ => false
theorem kit_i {K : PySem.W.Frag} (d : PyData) : PySem.W.kitOne K (.type (tyN d)) (.type "int") = some (isIB d) := by
  cases d
  · exact kit_ty (show kitB "NoneType" "int" = some false by decide +kernel)
  · exact kit_ty (show kitB "bool" "int" = some true by decide +kernel)
  · exact kit_ty (show kitB "int" "int" = some true by decide +kernel)
  · exact kit_ty (show kitB "str" "int" = some false by decide +kernel)
  · exact kit_ty (show kitB "list" "int" = some false by decide +kernel)
  · exact kit_ty (show kitB "tuple" "int" = some false by decide +kernel)
  · exact kit_ty (show kitB "dict" "int" = some false by decide +kernel)
theorem kit_b {K : PySem.W.Frag} (d : PyData) : PySem.W.kitOne K (.type (tyN d)) (.type "bool") = some (isBB d) := by
  cases d
  · exact kit_ty (show kitB "NoneType" "bool" = some false by decide +kernel)
  · exact kit_ty (show kitB "bool" "bool" = some true by decide +kernel)
  · exact kit_ty (show kitB "int" "bool" = some false by decide +kernel)
  · exact kit_ty (show kitB "str" "bool" = some false by decide +kernel)
  · exact kit_ty (show kitB "list" "bool" = some false by decide +kernel)
  · exact kit_ty (show kitB "tuple" "bool" = some false by decide +kernel)
  · exact kit_ty (show kitB "dict" "bool" = some false by decide +kernel)
theorem kit_s {K : PySem.W.Frag} (d : PyData) : PySem.W.kitOne K (.type (tyN d)) (.type "str") = some (isSB d) := by
  cases d
  · exact kit_ty (show kitB "NoneType" "str" = some false by decide +kernel)
  · exact kit_ty (show kitB "bool" "str" = some false by decide +kernel)
  · exact kit_ty (show kitB "int" "str" = some false by decide +kernel)
  · exact kit_ty (show kitB "str" "str" = some true by decide +kernel)
  · exact kit_ty (show kitB "list" "str" = some false by decide +kernel)
  · exact kit_ty (show kitB "tuple" "str" = some false by decide +kernel)
  · exact kit_ty (show kitB "dict" "str" = some false by decide +kernel)
theorem kit_t {K : PySem.W.Frag} (d : PyData) : PySem.W.kitOne K (.type (tyN d)) (.type "tuple") = some (isTB d) := by
  cases d
  · exact kit_ty (show kitB "NoneType" "tuple" = some false by decide +kernel)
  · exact kit_ty (show kitB "bool" "tuple" = some false by decide +kernel)
  · exact kit_ty (show kitB "int" "tuple" = some false by decide +kernel)
  · exact kit_ty (show kitB "str" "tuple" = some false by decide +kernel)
  · exact kit_ty (show kitB "list" "tuple" = some false by decide +kernel)
  · exact kit_ty (show kitB "tuple" "tuple" = some true by decide +kernel)
  · exact kit_ty (show kitB "dict" "tuple" = some false by decide +kernel)
theorem kit_l {K : PySem.W.Frag} (d : PyData) : PySem.W.kitOne K (.type (tyN d)) (.type "list") = some (isLB d) := by
  cases d
  · exact kit_ty (show kitB "NoneType" "list" = some false by decide +kernel)
  · exact kit_ty (show kitB "bool" "list" = some false by decide +kernel)
  · exact kit_ty (show kitB "int" "list" = some false by decide +kernel)
  · exact kit_ty (show kitB "str" "list" = some false by decide +kernel)
  · exact kit_ty (show kitB "list" "list" = some true by decide +kernel)
  · exact kit_ty (show kitB "tuple" "list" = some false by decide +kernel)
  · exact kit_ty (show kitB "dict" "list" = some false by decide +kernel)
theorem kit_tl {K : PySem.W.Frag} (d : PyData) : PySem.W.kitAny K (.type (tyN d)) [.type "tuple", .type "list"] = some (isTB d || isLB d) :=
  kitAny_cons (b := isTB d) (kit_t d) (fun h => by
    rw [h]
    exact kitAny_cons (b := isLB d) (kit_l d) (fun h => by rw [h]; exact kitAny_nil) fun h => by rw [h]; rfl) fun h => by rw [h]; rfl
theorem kit_lt {K : PySem.W.Frag} (d : PyData) : PySem.W.kitAny K (.type (tyN d)) [.type "list", .type "tuple"] = some (isLB d || isTB d) :=
  kitAny_cons (b := isLB d) (kit_l d) (fun h => by
    rw [h]
    exact kitAny_cons (b := isTB d) (kit_t d) (fun h => by rw [h]; exact kitAny_nil) fun h => by rw [h]; rfl) fun h => by rw [h]; rfl
/-! sizes -/
mutual
def Fit : PyData → Prop
  | .str z => z.length ≤ 10000
  | .list ds | .tuple ds => ds.length ≤ 900 ∧ FitAll ds
  | _ => True
def FitAll : List PyData → Prop
  | [] => True
  | d :: ds => Fit d ∧ FitAll ds
end
theorem fit_mem : ∀ {ds : List PyData} {d : PyData}, FitAll ds → d ∈ ds → Fit d
  | d :: ds, e, h, m => by
    rcases List.mem_cons.mp m with rfl | m
    · exact h.1
    · exact fit_mem h.2 m
theorem fit_of : ∀ {ds : List PyData}, (∀ d ∈ ds, Fit d) → FitAll ds
  | [], _ => trivial
  | d :: ds, h => ⟨h d (List.mem_cons_self ..), fit_of fun e m => h e (List.mem_cons_of_mem _ m)⟩
theorem dpAll_at {K : PySem.W.Frag} {H : Hp} {ds : List PyData} {vs : List V} {i : Nat} {d : PyData} (a : DpAll K H vs ds) (h : ds[i]? = some d) : ∃ v, vs[i]? = some v ∧ Dp K H v d := by
  have l := dpAll_len a
  have hi : i < vs.length := by rw [l]; exact (List.getElem?_eq_some_iff.mp h).1
  obtain ⟨d', h1, h2⟩ := dpAll_get i a (List.getElem?_eq_getElem hi)
  rw [h] at h1
  cases h1
  exact ⟨_, List.getElem?_eq_getElem hi, h2⟩
/-- the promise of what looks at a thing and tells True or False: new objects alone are laid -/
def spB (R : PyData → Bool) (K : PySem.W.Frag) : Sp := fun vs H Q _ => ∃ (v : V) (d : PyData), vs = [v] ∧ Dp K H v d ∧ Fit d ∧ ∀ H', Same H H' → Q (.bl (R d)) H'
/-! ### the program's words, of data -/
def numB : PyData → Bool
  | .int _ => true
  | _ => false
def worthB : PyData → Bool
  | .none => true
  | .int i => decide (-1000000000 ≤ i) && decide (i ≤ 1000000000)
  | _ => false
def lowB (c : Nat) : Bool := decide (97 ≤ c) && decide (c ≤ 122)
def nameB : PyData → Bool
  | .str z => (decide (1 ≤ z.length) && decide (z.length ≤ 8)) && (cl z).all lowB
  | _ => false
def tupB (lo hi : Int) : PyData → Bool
  | .tuple ds => decide (lo ≤ (ds.length : Int)) && decide ((ds.length : Int) ≤ hi)
  | _ => false
def fstD : PyData → PyData
  | .tuple (a :: _) => a
  | _ => .none
def sndD : PyData → PyData
  | .tuple (_ :: b :: _) => b
  | _ => .none
def strOf : PyData → Str
  | .str z => z
  | _ => Str.empty
def isN : PyData → Bool
  | .none => true
  | _ => false
def colB (d : PyData) : Bool := tupB 2 2 d && (nameB (fstD d) && worthB (sndD d))
def namesOf (ds : List PyData) : List Str := ds.map fun d => strOf (fstD d)
def colsB : PyData → Bool
  | .tuple ds => (decide (1 ≤ ds.length) && decide (ds.length ≤ 5)) && (ds.all colB && (isN (sndD (ds.headD .none)) && decide (namesOf ds).Nodup))
  | _ => false
def tabB (d : PyData) : Bool := tupB 2 2 d && (nameB (fstD d) && colsB (sndD d))
def tabsB : PyData → Bool
  | .tuple ds => (decide (1 ≤ ds.length) && decide (ds.length ≤ 6)) && (ds.all tabB && decide (namesOf ds).Nodup)
  | _ => false
end TT

set_option Elab.async false
set_option linter.all false
set_option maxRecDepth 100000
namespace TT
open PySem PySem.Spec PyProof.Rows L2
/-! ### comprehensions that ask item by item -/
def PvM (H1 : Hp) (D : Addr) (f : Nat → V) (i : Nat) (H : Hp) : Prop := H D = some (.lst ((List.range i).map f)) ∧ Kept [D] H1 H
theorem pvm_start (H1 : Hp) (D : Addr) (f : Nat → V) : PvM H1 D f 0 (upd H1 D (.lst [])) := ⟨upd_same, Kept.upd_in (List.mem_cons_self ..)⟩
theorem pvm_step {H1 H H4 : Hp} {D : Addr} {f : Nat → V} {i : Nat} {y : V} (h : PvM H1 D f i H) (s : Same H H4) (e : y = f i) (l : i ≤ 1000) :
    ∃ acc, H4 D = some (.lst acc) ∧ acc.length < sizeLine ∧ PvM H1 D f (i + 1) (upd H4 D (.lst (acc ++ [y]))) := by
  refine ⟨_, s _ _ h.1, ?_, ?_, (h.2.trans (Kept.of_same s)).trans (Kept.upd_in (List.mem_cons_self ..))⟩
  · rw [List.length_map, List.length_range]; exact small1000 l
  · rw [upd_same, List.range_succ, List.map_append, e]; rfl
theorem pvm_same {H1 H : Hp} {D : Addr} {f : Nat → V} {i : Nat} (h : PvM H1 D f i H) (n : H1 D = none) : Same H1 H := fun b o e => h.2 b o e fun z => by
  rw [List.mem_singleton.mp z, n] at e
  cases e
theorem range_all {α : Type} (R : α → Bool) (d : α) : ∀ (l : List α), ((List.range l.length).map fun i => R (l.getD i d)).all id = l.all R := by
  intro l
  have e : (List.range l.length).map (fun i => R (l.getD i d)) = l.map R := by
    refine List.ext_getElem (by simp) fun i h1 h2 => ?_
    simp only [List.length_map, List.length_range] at h1
    simp [List.getD_eq_getElem?_getD, List.getElem?_eq_getElem h1]
  rw [e, List.all_map]
  rfl
theorem range_map {α β : Type} (f : α → β) (d : α) (l : List α) : (List.range l.length).map (fun i => f (l.getD i d)) = l.map f := by
  refine List.ext_getElem (by simp) fun i h1 h2 => ?_
  simp only [List.length_map, List.length_range] at h1
  simp [List.getD_eq_getElem?_getD, List.getElem?_eq_getElem h1]
theorem lt_one (c d : Nat) : decide (([c] : List Nat) < [d]) = decide (c < d) := by
  refine decide_eq_decide.mpr ?_
  rw [List.cons_lt_cons_iff]
  constructor
  · rintro (h | ⟨_, h⟩)
    · exact h
    · exact absurd h (List.not_lt_nil [])
  · intro h; exact .inl h
theorem two_of {α : Type} : ∀ {l : List α}, l.length = 2 → ∃ a b, l = [a, b]
  | [a, b], _ => ⟨a, b, rfl⟩
  | [], h => by cases h
  | [_], h => by cases h
  | _ :: _ :: _ :: _, h => by simp at h
theorem tup2 {K : PySem.W.Frag} {H : Hp} {v : V} {d : PyData} (hd : Dp K H v d) (h : tupB 2 2 d = true) : ∃ p x y a b, v = .ref p ∧ d = .tuple [a, b] ∧ SqT K H p [x, y] ∧ Dp K H x a ∧ Dp K H y b := by
  cases hd with
  | non => cases h
  | bl b => cases h
  | int i => cases h
  | str z => cases h
  | lst _ _ => cases h
  | tup hs a =>
    rename_i p xs ds
    have h' : (decide ((2 : Int) ≤ (ds.length : Int)) && decide ((ds.length : Int) ≤ 2)) = true := h
    rw [Bool.and_eq_true] at h'
    have g1 := of_decide_eq_true h'.1
    have g2 := of_decide_eq_true h'.2
    have hl : ds.length = 2 := by omega
    obtain ⟨a1, b1, rfl⟩ := two_of hl
    cases a with
    | cons h1 r =>
      cases r with
      | cons h2 r =>
        cases r
        exact ⟨p, _, _, a1, b1, rfl, rfl, hs, h1, h2⟩
theorem isT_of {K : PySem.W.Frag} {H : Hp} {v : V} {d : PyData} (hd : Dp K H v d) (h : isTB d = true) : ∃ p xs ds, v = .ref p ∧ d = .tuple ds ∧ SqT K H p xs ∧ DpAll K H xs ds := by
  cases hd with
  | non => cases h
  | bl b => cases h
  | int i => cases h
  | str z => cases h
  | lst _ _ => cases h
  | tup hs a => exact ⟨_, _, _, rfl, rfl, hs, a⟩
theorem tupB_isT {lo hi : Int} {d : PyData} (h : tupB lo hi d = true) : isTB d = true := by
  cases d <;> first | rfl | cases h
def strName (d : PyData) : Bool := tupB 2 2 d && isSB (fstD d)
theorem getD_of {α : Type} {l : List α} {i : Nat} {a d : α} (h : l[i]? = some a) : l.getD i d = a := by
  rw [List.getD_eq_getElem?_getD, h]; rfl
theorem all_imp {R S : PyData → Bool} {ds : List PyData} (h : ds.all R = true) (i : ∀ d, R d = true → S d = true) : ds.all S = true :=
  List.all_eq_true.mpr fun d hd => i d (List.all_eq_true.mp h d hd)
theorem takeWhile_full {α : Type} (p : α → Bool) : ∀ l : List α, l.all p = true → l.takeWhile p = l
  | [], _ => rfl
  | a :: r, h => by
    rw [List.all_cons, Bool.and_eq_true] at h
    rw [List.takeWhile_cons, if_pos h.1, takeWhile_full p r h.2]
theorem takeWhile_short {α : Type} (p : α → Bool) : ∀ l : List α, (l.takeWhile p).length = l.length → l.all p = true
  | [], _ => rfl
  | a :: r, h => by
    rw [List.takeWhile_cons] at h
    by_cases ha : p a = true
    · rw [if_pos ha, List.length_cons, List.length_cons] at h
      rw [List.all_cons, ha, takeWhile_short p r (by omega)]; rfl
    · rw [if_neg ha] at h
      simp at h
theorem takeWhile_le {α : Type} (p : α → Bool) : ∀ l : List α, (l.takeWhile p).length ≤ l.length
  | [] => Nat.le_refl 0
  | a :: r => by
    rw [List.takeWhile_cons]
    split
    · rw [List.length_cons, List.length_cons]
      exact Nat.succ_le_succ (takeWhile_le p r)
    · exact Nat.zero_le _
theorem takeWhile_next {α : Type} (p : α → Bool) : ∀ (l : List α), (l.takeWhile p).length < l.length → ∃ a r, l.drop (l.takeWhile p).length = a :: r ∧ p a = false
  | [], h => by simp at h
  | a :: r, h => by
    rw [List.takeWhile_cons] at h ⊢
    by_cases ha : p a = true
    · rw [if_pos ha, List.length_cons, List.length_cons] at h
      rw [if_pos ha, List.length_cons, List.drop_succ_cons]
      exact takeWhile_next p r (by omega)
    · rw [if_neg ha]
      exact ⟨a, r, rfl, by simpa using ha⟩
/-- nothing is left of a text just where all its signs are among those stripped -/
theorem strip_empty (z y : Str) : Txt.stripChars z y = Str.ofString "" ↔ (cl z).all y.cps.contains = true := by
  have e0 : cl (Str.ofString "") = [] := rfl
  unfold Txt.stripChars
  rw [stripBy_eq]
  generalize y.cps.contains = p
  have cs : ∀ i j, cl (Builtin.Str.strSub z i j) = ((cl z).drop i).take (j - i) := fun i j => StrLaws.strSub_toList ..
  have lo : stripLo p true z = ((cl z).takeWhile p).length := rfl
  constructor
  · intro h
    have h1 := congrArg cl h
    rw [cs, e0, lo] at h1
    have h2 := congrArg List.length h1
    rw [List.length_take, List.length_drop, List.length_nil] at h2
    by_cases hlt : ((cl z).takeWhile p).length < (cl z).length
    · exfalso
      obtain ⟨a, r, hd, hp⟩ := takeWhile_next p _ hlt
      have hi : stripHi p true z ((cl z).takeWhile p).length = z.length - (((cl z).drop ((cl z).takeWhile p).length).reverse.takeWhile p).length := rfl
      rw [hi] at h2
      have hle : (((cl z).drop ((cl z).takeWhile p).length).reverse.takeWhile p).length < ((cl z).drop ((cl z).takeWhile p).length).length := by
        have g := takeWhile_le p ((cl z).drop ((cl z).takeWhile p).length).reverse
        rw [List.length_reverse] at g
        refine Nat.lt_of_le_of_ne g fun e => ?_
        have g2 := takeWhile_short p ((cl z).drop ((cl z).takeWhile p).length).reverse (by rw [List.length_reverse]; exact e)
        rw [List.all_reverse, hd, List.all_cons, hp] at g2
        cases g2
      rw [List.length_drop] at hle
      have el : z.length = (cl z).length := rfl
      omega
    · exact takeWhile_short p _ (by have := takeWhile_le p (cl z); omega)
  · intro h
    refine cl_inj ?_
    rw [cs, e0, lo, takeWhile_full p _ h, List.drop_length, List.take_nil]
theorem abc_low (c : Nat) : abc.cps.contains c = lowB c := by
  rw [Array.contains_eq_mem]
  unfold lowB
  have h : (c ∈ abc.cps) ↔ (97 ≤ c ∧ c ≤ 122) := by
    rw [← Array.mem_toList_iff]
    show c ∈ cl abc ↔ _
    rw [abc_cl, List.mem_map]
    constructor
    · rintro ⟨a, ha, rfl⟩
      have := List.mem_range.mp ha
      omega
    · intro ⟨h1, h2⟩
      exact ⟨c - 97, List.mem_range.mpr (by omega), by omega⟩
  by_cases h1 : c ∈ abc.cps
  · have h2 := h.mp h1
    rw [decide_eq_true h1, decide_eq_true h2.1, decide_eq_true h2.2]; rfl
  · rw [decide_eq_false h1]
    by_cases h3 : 97 ≤ c
    · rw [decide_eq_true h3, decide_eq_false (fun h4 => h1 (h.mpr ⟨h3, h4⟩))]; rfl
    · rw [decide_eq_false h3]; rfl
theorem strip_name (z : Str) : decide (Txt.stripChars z abc = Str.ofString "") = (cl z).all lowB := by
  have e : abc.cps.contains = lowB := funext abc_low
  have h := strip_empty z abc
  rw [e] at h
  cases g : (cl z).all lowB with
  | true => exact decide_eq_true (h.mpr g)
  | false => exact decide_eq_false fun q => by rw [h.mp q] at g; cases g
theorem nameB_ok {z : Str} (h : nameB (.str z) = true) : NameOk z := by
  have h' : ((decide (1 ≤ z.length) && decide (z.length ≤ 8)) && (cl z).all lowB) = true := h
  simp only [Bool.and_eq_true, decide_eq_true_eq, List.all_eq_true] at h'
  refine ⟨h'.1.1, h'.1.2, fun c hc => ?_⟩
  have := h'.2 c hc
  unfold lowB at this
  simp only [Bool.and_eq_true, decide_eq_true_eq] at this
  exact this
theorem dp_strs {K : PySem.W.Frag} {H : Hp} : ∀ zs : List Str, DpAll K H (zs.map V.str) (zs.map PyData.str)
  | [] => .nil
  | z :: zs => .cons (.str z) (dp_strs zs)
theorem lay_strs : ∀ zs : List Str, (∀ z ∈ zs, NameOk z) → PyData.canLayAll0 (zs.map PyData.str) = true ∧ PyData.depthAll (zs.map PyData.str) = 0
  | [], _ => ⟨rfl, rfl⟩
  | z :: zs, h => by
    obtain ⟨h1, h2⟩ := lay_strs zs fun y hy => h y (List.mem_cons_of_mem _ hy)
    constructor
    · show (PyData.strOk z && PyData.canLayAll0 (zs.map PyData.str)) = true
      rw [strOk_name (h z (List.mem_cons_self ..)), h1]; rfl
    · show max 0 (PyData.depthAll (zs.map PyData.str)) = 0
      rw [h2]; rfl
theorem shaped_strs {zs : List Str} (h : ∀ z ∈ zs, NameOk z) : SeqAt.shaped (.list (zs.map PyData.str)) = true := by
  obtain ⟨h1, h2⟩ := lay_strs zs h
  show (PyData.canLayAll0 (zs.map PyData.str) && decide (PyData.depthAll (zs.map PyData.str) + 1 ≤ 64)) = true
  rw [h1, h2]; rfl
theorem name_at {K : PySem.W.Frag} {H : Hp} {x : V} {a : PyData} (h : Dp K H x a) (hn : nameB a = true) : ∃ z, a = .str z ∧ x = .str z ∧ NameOk z := by
  cases h with
  | str z => exact ⟨z, rfl, rfl, nameB_ok hn⟩
  | non => cases hn
  | bl b => cases hn
  | int i => cases hn
  | lst _ _ => cases hn
  | tup _ _ => cases hn
/-- what may be shown whole -/
structure Shows (d : PyData) : Prop where
  sh : d.showable = true
  nd : d.hasDict = false
  dp : d.depth ≤ 60
  sz : d.shown.length ≤ sizeLine
end TT

set_option Elab.async false
set_option linter.all false
set_option maxRecDepth 100000
namespace TT
open PySem PySem.Spec PyProof.Rows L2
/-! ### sizes of data: bounds of its ints, of its lists' lengths, of all its signs -/
mutual
def Nice (B L : Nat) : PyData → Prop
  | .none | .bool _ => True
  | .int i => i.natAbs ≤ B
  | .str z => ∀ c ∈ cl z, c < 128
  | .list ds | .tuple ds => ds.length ≤ L ∧ NiceAll B L ds
  | .dict _ => False
def NiceAll (B L : Nat) : List PyData → Prop
  | [] => True
  | d :: ds => Nice B L d ∧ NiceAll B L ds
end
mutual
def wt : PyData → Nat
  | .none => 4
  | .bool _ => 5
  | .int _ => 25
  | .str z => 10 * z.length + 12
  | .list ds | .tuple ds => 6 + wtAll ds
  | .dict _ => 0
def wtAll : List PyData → Nat
  | [] => 0
  | d :: ds => wt d + 3 + wtAll ds
end
theorem niceAll_iff {B L : Nat} : ∀ {ds : List PyData}, NiceAll B L ds ↔ ∀ d ∈ ds, Nice B L d
  | [] => ⟨fun _ _ h => absurd h List.not_mem_nil, fun _ => trivial⟩
  | d :: ds => by
    constructor
    · intro h e he
      rcases List.mem_cons.mp he with rfl | he
      · exact h.1
      · exact niceAll_iff.mp h.2 e he
    · intro h
      exact ⟨h d (List.mem_cons_self ..), niceAll_iff.mpr fun e he => h e (List.mem_cons_of_mem _ he)⟩
mutual
theorem Nice.mono {B B' L L' : Nat} (hB : B ≤ B') (hL : L ≤ L') : ∀ {d : PyData}, Nice B L d → Nice B' L' d
  | .none, _ => trivial
  | .bool _, _ => trivial
  | .int i, h => Nat.le_trans (show i.natAbs ≤ B from h) hB
  | .str _, h => h
  | .list ds, h => ⟨Nat.le_trans h.1 hL, NiceAll.mono hB hL h.2⟩
  | .tuple ds, h => ⟨Nat.le_trans h.1 hL, NiceAll.mono hB hL h.2⟩
  | .dict _, h => h
theorem NiceAll.mono {B B' L L' : Nat} (hB : B ≤ B') (hL : L ≤ L') : ∀ {ds : List PyData}, NiceAll B L ds → NiceAll B' L' ds
  | [], _ => trivial
  | d :: ds, h => ⟨Nice.mono hB hL h.1, NiceAll.mono hB hL h.2⟩
end
theorem wtAll_app : ∀ (ds es : List PyData), wtAll (ds ++ es) = wtAll ds + wtAll es
  | [], es => by simp [wtAll]
  | d :: ds, es => by
    show wt d + 3 + wtAll (ds ++ es) = wt d + 3 + wtAll ds + wtAll es
    rw [wtAll_app ds es]; omega
theorem wtAll_len : ∀ ds : List PyData, ds.length ≤ wtAll ds
  | [] => Nat.zero_le _
  | d :: ds => by
    have := wtAll_len ds
    show ds.length + 1 ≤ wt d + 3 + wtAll ds
    omega
theorem wt_mem : ∀ {ds : List PyData} {d : PyData}, d ∈ ds → wt d + 3 ≤ wtAll ds
  | e :: ds, d, h => by
    show wt d + 3 ≤ wt e + 3 + wtAll ds
    rcases List.mem_cons.mp h with rfl | h
    · omega
    · have := wt_mem h; omega
theorem depth_mem : ∀ {ds : List PyData} {d : PyData}, d ∈ ds → d.depth ≤ PyData.depthAll ds
  | e :: ds, d, h => by
    show d.depth ≤ max e.depth (PyData.depthAll ds)
    rcases List.mem_cons.mp h with rfl | h
    · exact Nat.le_max_left _ _
    · exact Nat.le_trans (depth_mem h) (Nat.le_max_right _ _)
theorem depthAll_le {n : Nat} : ∀ {ds : List PyData}, (∀ d ∈ ds, d.depth ≤ n) → PyData.depthAll ds ≤ n
  | [], _ => Nat.zero_le _
  | d :: ds, h => Nat.max_le.mpr ⟨h d (List.mem_cons_self ..), depthAll_le fun e he => h e (List.mem_cons_of_mem _ he)⟩
mutual
theorem fit_nice {B L : Nat} (hL : L ≤ 900) : ∀ {d : PyData}, Nice B L d → wt d ≤ 100000 → Fit d
  | .none, _, _ => trivial
  | .bool _, _, _ => trivial
  | .int _, _, _ => trivial
  | .str z, _, h => by
    show z.length ≤ 10000
    have h' : 10 * z.length + 12 ≤ 100000 := h
    omega
  | .list ds, h, hw => ⟨Nat.le_trans h.1 hL, fitAll_nice hL h.2 (by have : 6 + wtAll ds ≤ 100000 := hw; omega)⟩
  | .tuple ds, h, hw => ⟨Nat.le_trans h.1 hL, fitAll_nice hL h.2 (by have : 6 + wtAll ds ≤ 100000 := hw; omega)⟩
  | .dict _, h, _ => h.elim
theorem fitAll_nice {B L : Nat} (hL : L ≤ 900) : ∀ {ds : List PyData}, NiceAll B L ds → wtAll ds ≤ 100000 → FitAll ds
  | [], _, _ => trivial
  | d :: ds, h, hw => by
    have hw' : wt d + 3 + wtAll ds ≤ 100000 := hw
    exact ⟨fit_nice hL h.1 (by omega), fitAll_nice hL h.2 (by omega)⟩
end
theorem int_len {i : Int} (h : i.natAbs ≤ 10 ^ 20) : (Str.ofString (toString i)).length ≤ 22 := by
  by_cases h0 : 0 ≤ i
  · exact Nat.le_trans (toString_length_le (v := i) (k := 21) h0 (by decide) (by omega)) (by decide)
  · have g := len_text_negI (n := i) (by omega)
    have g2 := toString_length_le (v := 0 - i) (k := 21) (by omega) (by decide) (by omega)
    omega
theorem list_len (ts : List Str) : (listText ts).length ≤ piled ts + 4 := by
  unfold listText
  rw [str_len_app]
  cases ts with
  | nil => decide +kernel
  | cons t r =>
    have e : (textFrom 0 "[" (t :: r)).length ≤ piled (t :: r) + 3 := by
      show (textFrom 1 (_ ++ t) r).length ≤ _
      rw [textFrom_length_pos _ _ _ (by decide), str_len_app, piled_cons]
      have : (Str.ofString "[" ++ Str.ofString (if 0 > 0 then ", " else "")).length = 1 := by decide +kernel
      omega
    have : (Str.ofString "]").length = 1 := by decide +kernel
    omega
theorem tup_len (ts : List Str) : (tupleText ts).length ≤ piled ts + 4 := by
  have e1 : (Str.ofString "(").length = 1 := by decide +kernel
  have e3 : (Str.ofString (if ts.length == 1 then ",)" else ")" : String)).length ≤ 2 := by split <;> decide +kernel
  unfold tupleText
  rw [str_len_app, str_len_app]
  by_cases h : ts = []
  · subst h
    decide +kernel
  · have := join_length_add ts h
    omega
mutual
theorem shown_len {B L : Nat} (hB : B ≤ 10 ^ 20) : ∀ {d : PyData}, Nice B L d → d.shown.length ≤ wt d
  | .none, _ => by decide +kernel
  | .bool b, _ => by cases b <;> decide +kernel
  | .int i, h => Nat.le_trans (int_len (Nat.le_trans (show i.natAbs ≤ B from h) hB)) (by show 22 ≤ 25; decide)
  | .str z, h => by
    show (reprText z).length ≤ 10 * z.length + 12
    have := StrLaws.reprText_len z fun c hc => Nat.lt_of_lt_of_le (h c hc) (by decide)
    omega
  | .list ds, h => by
    show (listText (PyData.shownAll ds)).length ≤ 6 + wtAll ds
    have g1 := list_len (PyData.shownAll ds)
    have g2 := shownAll_len hB h.2
    omega
  | .tuple ds, h => by
    show (tupleText (PyData.shownAll ds)).length ≤ 6 + wtAll ds
    have g1 := tup_len (PyData.shownAll ds)
    have g2 := shownAll_len hB h.2
    omega
  | .dict _, h => h.elim
theorem shownAll_len {B L : Nat} (hB : B ≤ 10 ^ 20) : ∀ {ds : List PyData}, NiceAll B L ds → piled (PyData.shownAll ds) ≤ wtAll ds
  | [], _ => Nat.le_refl _
  | d :: ds, h => by
    show piled (d.shown :: PyData.shownAll ds) ≤ wt d + 3 + wtAll ds
    rw [piled_cons]
    have g1 := shown_len hB h.1
    have g2 := shownAll_len hB h.2
    omega
end
mutual
theorem showable_nice {B L : Nat} (hB : B ≤ 10 ^ 20) : ∀ {d : PyData}, Nice B L d → d.showable = true ∧ d.hasDict = false
  | .none, _ => ⟨rfl, rfl⟩
  | .bool _, _ => ⟨rfl, rfl⟩
  | .int i, h => ⟨decide_eq_true (Nat.lt_of_lt_of_le (PySem.Flt.log2_lt_of (k := 70) (by decide) (Nat.lt_of_le_of_lt (Nat.le_trans (show i.natAbs ≤ B from h) hB) (by decide))) (by decide)), rfl⟩
  | .str _, _ => ⟨rfl, rfl⟩
  | .list ds, h => showableAll_nice hB h.2
  | .tuple ds, h => showableAll_nice hB h.2
  | .dict _, h => h.elim
theorem showableAll_nice {B L : Nat} (hB : B ≤ 10 ^ 20) : ∀ {ds : List PyData}, NiceAll B L ds → PyData.showableAll ds = true ∧ PyData.hasDictAll ds = false
  | [], _ => ⟨rfl, rfl⟩
  | d :: ds, h => by
    obtain ⟨a1, a2⟩ := showable_nice hB h.1
    obtain ⟨b1, b2⟩ := showableAll_nice hB h.2
    constructor
    · show (d.showable && PyData.showableAll ds) = true
      rw [a1, b1]; rfl
    · show (d.hasDict || PyData.hasDictAll ds) = false
      rw [a2, b2]; rfl
end
theorem shows_nice {B L : Nat} {d : PyData} (h : Nice B L d) (hB : B ≤ 10 ^ 20) (hd : d.depth ≤ 60) (hw : wt d ≤ 100000) : Shows d :=
  ⟨(showable_nice hB h).1, (showable_nice hB h).2, hd, Nat.le_trans (shown_len hB h) (Nat.le_trans hw (by decide))⟩
/-! ### numbers that may be truths -/
inductive NumV : V → Int → Prop
  | int (i : Int) : NumV (.int i) i
  | bl (b : Bool) : NumV (.bl b) (if b = true then 1 else 0)
section
variable {X : Cx}
theorem op_addN : OpR X (binaryOp .Add) (fun x y H Q => ∃ i j, NumV x i ∧ y = .int j ∧ Q (.int (i + j)) H) := by
  intro pins s σ H x y v u Q I rx ry h
  obtain ⟨i, j, n, rfl, q⟩ := h
  obtain ⟨t, rfl⟩ := ry
  cases n with
  | int i => exact op_add pins s σ H (.int i) (.int j) v _ Q I rx ⟨t, rfl⟩ ⟨i, j, rfl, rfl, q⟩
  | bl b => cases rx; exact IntBool.add_bool_int ⟨.int _, H, I.tok _, ⟨_, rfl⟩, q⟩
theorem op_subN : OpR X (binaryOp .Sub) (fun x y H Q => ∃ i j, NumV x i ∧ y = .int j ∧ Q (.int (i - j)) H) := by
  intro pins s σ H x y v u Q I rx ry h
  obtain ⟨i, j, n, rfl, q⟩ := h
  obtain ⟨t, rfl⟩ := ry
  cases n with
  | int i => exact op_sub pins s σ H (.int i) (.int j) v _ Q I rx ⟨t, rfl⟩ ⟨i, j, rfl, rfl, q⟩
  | bl b => cases rx; exact IntBool.sub_bool_int ⟨.int _, H, I.tok _, ⟨_, rfl⟩, q⟩
theorem op_subIN : OpR X (binaryOp .Sub) (fun x y H Q => ∃ i j, x = .int i ∧ NumV y j ∧ Q (.int (i - j)) H) := by
  intro pins s σ H x y v u Q I rx ry h
  obtain ⟨i, j, rfl, n, q⟩ := h
  obtain ⟨t, rfl⟩ := rx
  cases n with
  | int j => exact op_sub pins s σ H (.int i) (.int j) _ u Q I ⟨t, rfl⟩ ry ⟨i, j, rfl, rfl, q⟩
  | bl b => cases ry; exact IntBool.sub_int_bool ⟨.int _, H, I.tok _, ⟨_, rfl⟩, q⟩
/-- str of such -/
def numText : V → Str
  | .int i => Str.ofString (toString i)
  | .bl b => if b = true then Str.ofString "True" else Str.ofString "False"
  | _ => Str.empty
theorem call_str_num : CallR X (.type "str") (fun xs H Q => ∃ x i, xs = [x] ∧ NumV x i ∧ i.natAbs.log2 < 1920 ∧ Q (.str (numText x)) H) := by
  intro pins s σ H xs us Q I r h
  obtain ⟨x, i, rfl, n, hi, q⟩ := h
  cases n with
  | int i => exact call_str_int pins s σ H _ us Q I r ⟨i, rfl, hi, q⟩
  | bl b =>
    obtain ⟨u, rfl, rx⟩ := vals1 r
    cases rx
    exact P.str_of_bool ⟨.str _, H, I.tok _, ⟨_, rfl⟩, q⟩
end
end TT

set_option Elab.async false
set_option linter.all false
set_option maxRecDepth 100000
namespace TT
open PySem PySem.Spec PyProof.Rows L2
/-! ### what may be put in another's place -/
structure Good (B W : Nat) (e : PyData) : Prop where
  nice : Nice B 1 e
  wt : wt e ≤ W
  dep : e.depth ≤ 1
theorem msk_at {M : List Addr} {H : Hp} {p : Addr} {o : HO} (h : H p = some o) (n : p ∉ M) : msk M H p = some o := by
  unfold msk
  rw [if_neg n]
  exact h
/-- a mask over the state of the draws and more, all of it there -/
structure Mask (M : List Addr) (H : Hp) (s c : Addr) : Prop where
  sc : ∀ p ∈ [s, c], p ∈ M
  tr : ∀ p ∈ M, H p ≠ none
theorem Mask.new {M : List Addr} {H : Hp} {s c p : Addr} (h : Mask M H s c) (n : H p = none) : p ∉ M := fun z => h.tr p z n
theorem Mask.up {M : List Addr} {H : Hp} {s c p : Addr} {o : HO} (h : Mask M H s c) : Mask M (upd H p o) s c := ⟨h.sc, fun b hb => by
  unfold upd
  split
  · exact fun z => nomatch z
  · exact h.tr b hb⟩
theorem Mask.kept {M : List Addr} {H H' : Hp} {s c : Addr} {T : Nat} (h : Mask M H s c) (k : Kept [s, c] H H') (S : StAt H' s c T) : Mask M H' s c := ⟨h.sc, fun b hb z => by
  by_cases hm : b ∈ [s, c]
  · simp only [List.mem_cons, List.not_mem_nil, or_false] at hm
    rcases hm with rfl | rfl
    · obtain ⟨t, _, e⟩ := S.ex
      rw [z] at e; cases e
    · obtain ⟨ns, _, _, e⟩ := S.cs
      rw [z] at e; cases e
  · cases e : H b with
    | none => exact h.tr b hb e
    | some o =>
      have := k b o e hm
      rw [z] at this; cases this⟩
theorem Mask.same {M : List Addr} {H H' : Hp} {s c : Addr} (h : Mask M H s c) (k : Kept [s, c] H H') : Same (msk M H) (msk M H') := msk_same (k.mono h.sc)
/-- a list of such, at an address of its own -/
structure Bag (K : PySem.W.Frag) (M : List Addr) (s c : Addr) (T B W : Nat) (H0 H : Hp) (L : Addr) (vs : List V) (ds : List PyData) : Prop where
  at' : H L = some (.lst vs)
  dp : DpAll K (msk M H) vs ds
  good : ∀ e ∈ ds, Good B W e
  kept : Kept [s, c] H0 H
  st : StAt H s c T
  out : L ∉ M
  mask : Mask M H s c
section
variable {K : PySem.W.Frag} {M : List Addr} {s c L L' p : Addr} {T B W : Nat} {H0 H : Hp} {vs us : List V} {ds es : List PyData} {o : HO}
theorem Bag.up (b : Bag K M s c T B W H0 H L vs ds) (n : H p = none) : Bag K M s c T B W H0 (upd H p o) L vs ds :=
  ⟨by rw [upd_ne (ne_of_none b.at' n)]; exact b.at', dpAll_same (msk_same (Kept.upd_new n)) b.dp, b.good, b.kept.trans (Kept.upd_new n), b.st.upd_new n, b.out, b.mask.up⟩
theorem Bag.mk' (dp : DpAll K (msk M H) vs ds) (good : ∀ e ∈ ds, Good B W e) (kept : Kept [s, c] H0 H) (S : StAt H s c T) (hM : Mask M H s c) (n : H L = none) : Bag K M s c T B W H0 (upd H L (.lst vs)) L vs ds :=
  ⟨upd_same, dpAll_same (msk_same (Kept.upd_new n)) dp, good, kept.trans (Kept.upd_new n), S.upd_new n, hM.new n, hM.up⟩
theorem Bag.cat (a : Bag K M s c T B W H0 H L vs ds) (b : Bag K M s c T B W H0 H L' us es) (n : H p = none) : Bag K M s c T B W H0 (upd H p (.lst (vs ++ us))) p (vs ++ us) (ds ++ es) :=
  Bag.mk' (dpAll_app a.dp b.dp) (fun e he => (List.mem_append.mp he).elim (a.good e) (b.good e)) a.kept a.st a.mask n
theorem dp_tup_new {v : List V} {d : List PyData} (hM : Mask M H s c) (n : H p = none) (h : DpAll K (msk M H) v d) : Dp K (msk M (upd H p (.tup v))) (.ref p) (.tuple d) :=
  .tup (.inl (.inl (msk_at upd_same (hM.new n)))) (dpAll_same (msk_same (Kept.upd_new n)) h)
theorem dp_lst_new {v : List V} {d : List PyData} (hM : Mask M H s c) (n : H p = none) (h : DpAll K (msk M H) v d) : Dp K (msk M (upd H p (.lst v))) (.ref p) (.list d) :=
  .lst (.inl (.inl (msk_at upd_same (hM.new n)))) (dpAll_same (msk_same (Kept.upd_new n)) h)
theorem dp_up {v : V} {d : PyData} (n : H p = none) (h : Dp K (msk M H) v d) : Dp K (msk M (upd H p o)) v d := dp_same (msk_same (Kept.upd_new n)) h
end
def ascB (z : Str) : Bool := (cl z).all (fun c => decide (c < 128)) && decide (z.length ≤ 10)
theorem asc_of {z : Str} (h : ascB z = true) {B W : Nat} (hW : 112 ≤ W) : Good B W (.str z) := by
  unfold ascB at h
  simp only [Bool.and_eq_true, List.all_eq_true, decide_eq_true_eq] at h
  exact ⟨h.1, by show 10 * z.length + 12 ≤ W; omega, Nat.zero_le _⟩
theorem int_of {i : Int} {B W : Nat} (h : i.natAbs ≤ B) (hW : 112 ≤ W) : Good B W (.int i) := ⟨h, by show 25 ≤ W; omega, Nat.zero_le _⟩
theorem good_one {B W : Nat} {e : PyData} (h : Nice B 1 e) (hd : e.depth = 0) (hw : wt e + 9 ≤ W) : Good B W (.tuple [e]) ∧ Good B W (.list [e]) := by
  have g : 6 + (wt e + 3 + 0) ≤ W := by omega
  have d1 : max e.depth 0 + 1 ≤ 1 := by rw [hd]; decide
  exact ⟨⟨⟨Nat.le_refl 1, h, trivial⟩, g, d1⟩, ⟨⟨Nat.le_refl 1, h, trivial⟩, g, d1⟩⟩
theorem name_asc {z : Str} (h : NameOk z) {B W : Nat} (hW : 112 ≤ W) : Good B W (.str z) := by
  have l : z.length ≤ 8 := h.top
  exact ⟨fun c hc => by have := h.low c hc; unfold low at this; omega, by show 10 * z.length + 12 ≤ W; omega, Nat.zero_le _⟩
/-- the first fifteen -/
def first15V (t1 l1 t2 : Addr) : List V := [.non, .bl true, .bl false, .str "", .str "a1", .str "Ab", .str "abcdefghi", .str "a b", .ref t1, .ref l1, .ref t2, .int 0, .int (-1), .int (10 ^ (9 : Int).toNat), .str "none"]
def first15D : List PyData := [.none, .bool true, .bool false, .str "", .str "a1", .str "Ab", .str "abcdefghi", .str "a b", .tuple [], .list [], .tuple [.int 0], .int 0, .int (-1), .int (10 ^ (9 : Int).toNat), .str "none"]
theorem first15_good {B W : Nat} (hB : 2000000000 ≤ B) (hW : 200 ≤ W) : ∀ e ∈ first15D, Good B W e := by
  have e9 : (10 : Int) ^ (9 : Int).toNat = 1000000000 := by decide
  intro e he
  unfold first15D at he
  simp only [List.mem_cons, List.not_mem_nil, or_false] at he
  rcases he with rfl | rfl | rfl | rfl | rfl | rfl | rfl | rfl | rfl | rfl | rfl | rfl | rfl | rfl | rfl
  · exact ⟨trivial, by show 4 ≤ W; omega, Nat.zero_le _⟩
  · exact ⟨trivial, by show 5 ≤ W; omega, Nat.zero_le _⟩
  · exact ⟨trivial, by show 5 ≤ W; omega, Nat.zero_le _⟩
  · exact asc_of (by decide +kernel) (by omega)
  · exact asc_of (by decide +kernel) (by omega)
  · exact asc_of (by decide +kernel) (by omega)
  · exact asc_of (by decide +kernel) (by omega)
  · exact asc_of (by decide +kernel) (by omega)
  · exact ⟨⟨Nat.zero_le _, trivial⟩, by show 6 ≤ W; omega, Nat.le_refl _⟩
  · exact ⟨⟨Nat.zero_le _, trivial⟩, by show 6 ≤ W; omega, Nat.le_refl _⟩
  · exact (good_one (e := .int 0) (Nat.zero_le _) rfl (by show 34 ≤ W; omega)).1
  · exact int_of (Nat.zero_le _) (by omega)
  · exact int_of (by show 1 ≤ B; omega) (by omega)
  · exact int_of (by rw [e9]; show 1000000000 ≤ B; omega) (by omega)
  · exact asc_of (by decide +kernel) (by omega)
theorem upper_asc {z : Str} (h : ∀ c ∈ cl z, c < 128) : (∀ c ∈ cl (Txt.upper z), c < 128) ∧ (Txt.upper z).length = z.length := by
  rw [upper_ascii h]
  constructor
  · intro c hc
    have hc' : c ∈ (cl z).map up1 := by
      have e : cl (⟨z.cps.map up1⟩ : Str) = (cl z).map up1 := by
        show (z.cps.map up1).toList = z.cps.toList.map up1
        exact Array.toList_map
      rw [e] at hc; exact hc
    obtain ⟨a, ha, rfl⟩ := List.mem_map.mp hc'
    have := h a ha
    unfold up1
    split <;> omega
  · show (z.cps.map up1).size = z.cps.size
    exact Array.size_map
theorem cut_asc {z : Str} (h : ∀ c ∈ cl z, c < 128) (lo hi : Option Int) : (∀ c ∈ cl (cutS z lo hi), c < 128) ∧ (cutS z lo hi).length ≤ z.length := by
  constructor
  · intro c hc
    rw [cut_cl] at hc
    exact h c (List.mem_of_mem_drop (List.mem_of_mem_take hc))
  · rw [cl_len, cut_cl, List.length_take, List.length_drop]
    have : (cl z).length = z.length := rfl
    omega
theorem num_asc {v : V} {i : Int} (h : NumV v i) (hi : i.natAbs ≤ 10 ^ 20) : (∀ c ∈ cl (numText v), c < 128) ∧ (numText v).length ≤ 22 := by
  cases h with
  | bl b => cases b <;> exact ⟨by decide +kernel, by decide +kernel⟩
  | int i =>
    refine ⟨?_, int_len hi⟩
    have all : ∀ m : Nat, ∀ ch ∈ (toString (Int.ofNat m)).toList, ch.toNat < 128 := fun m ch hch => by
      have e1 := text_ofNat m
      rw [Str.ofString_eq_toList] at e1
      have e2 : (toString (Int.ofNat m)).toList.map Char.toNat = (Nat.toDigits 10 m).map Char.toNat := congrArg (fun z : Str => z.cps.toList) e1
      have hm : ch.toNat ∈ (Nat.toDigits 10 m).map Char.toNat := by rw [← e2]; exact List.mem_map.mpr ⟨ch, hch, rfl⟩
      obtain ⟨c2, h2, e3⟩ := List.mem_map.mp hm
      rw [← e3]
      have h3 := Nat.isDigit_of_mem_toDigits (by decide) (by decide) h2
      simp only [Char.isDigit, Bool.and_eq_true, decide_eq_true_eq] at h3
      have h4 : c2.val.toNat ≤ 57 := h3.2
      show c2.val.toNat < 128
      omega
    intro c hc
    have hc' : c ∈ (toString i).toList.map Char.toNat := by
      have e : cl (Str.ofString (toString i)) = (toString i).toList.map Char.toNat := by
        unfold cl
        rw [Str.ofString_eq_toList]
      rw [← e]; exact hc
    obtain ⟨ch, hch, rfl⟩ := List.mem_map.mp hc'
    by_cases h0 : 0 ≤ i
    · obtain ⟨m, rfl⟩ : ∃ m : Nat, i = Int.ofNat m := ⟨i.toNat, by show i = ((i.toNat : Nat) : Int); omega⟩
      exact all m ch hch
    · rw [toString_neg (by omega), String.toList_append] at hch
      obtain ⟨m, hm⟩ : ∃ m : Nat, 0 - i = Int.ofNat m := ⟨(0 - i).toNat, by show 0 - i = (((0 - i).toNat : Nat) : Int); omega⟩
      rcases List.mem_append.mp hch with h | h
      · have e : ("-" : String).toList = ['-'] := by decide
        rw [e] at h
        rw [List.mem_singleton.mp h]
        decide
      · rw [hm] at h
        exact all m ch h
end TT

set_option Elab.async false
set_option linter.all false
set_option maxRecDepth 100000
namespace TT
open PySem PySem.Spec PyProof.Rows L2
/-! ### is some data among names -/
def inS (zs : List Str) : PyData → Bool
  | .str z => decide (z ∈ zs)
  | _ => false
theorem any_eqv (zs : List Str) (d : PyData) : (zs.map PyData.str).any (fun z => PyData.eqv z d) = inS zs d := by
  rw [List.any_map]
  cases d with
  | str z =>
    show zs.any (fun y => y == z) = decide (z ∈ zs)
    rw [Bool.eq_iff_iff]
    simp
  | none => exact List.any_eq_false.mpr fun x _ => by simp [Function.comp, PyData.eqv]
  | bool b => exact List.any_eq_false.mpr fun x _ => by simp [Function.comp, PyData.eqv]
  | int i => exact List.any_eq_false.mpr fun x _ => by simp [Function.comp, PyData.eqv]
  | list ds => exact List.any_eq_false.mpr fun x _ => by simp [Function.comp, PyData.eqv]
  | tuple ds => exact List.any_eq_false.mpr fun x _ => by simp [Function.comp, PyData.eqv]
  | dict ds => exact List.any_eq_false.mpr fun x _ => by simp [Function.comp, PyData.eqv]
def rInN (K : PySem.W.Frag) : R2 := fun x y H Q => ∃ (d : PyData) (zs : List Str) (p : Addr), y = .ref p ∧ Dp K H x d ∧ SeqAt.shaped d = true ∧ (SqL K H p (zs.map V.str) ∨ SqT K H p (zs.map V.str)) ∧ SeqAt.shaped (.list (zs.map PyData.str)) = true ∧ Q (.bl (inS zs d)) H
def rNinN (K : PySem.W.Frag) : R2 := fun x y H Q => ∃ (d : PyData) (zs : List Str) (p : Addr), y = .ref p ∧ Dp K H x d ∧ SeqAt.shaped d = true ∧ (SqL K H p (zs.map V.str) ∨ SqT K H p (zs.map V.str)) ∧ SeqAt.shaped (.list (zs.map PyData.str)) = true ∧ Q (.bl (!inS zs d)) H
section
variable {X : Cx}
theorem op_inN (hu : X.A.units + 65 < cLine) : OpR X (compareOp .In) (rInN X.K) := by
  intro pins s σ H x y v u Q I rx ry h
  obtain ⟨d, zs, p, rfl, hd, sd, he, se, q⟩ := h
  rw [← any_eqv] at q
  obtain ⟨as, r1⟩ := Dp.reads I d x v hd rx
  rcases he with he | he
  · obtain ⟨bs, r2⟩ := Dp.reads I (.list (zs.map PyData.str)) (.ref p) u (.lst he (dp_strs zs)) ry
    exact SeqAt.in_list_reads r2 r1 (SeqAt.canLay_of_shaped se) (SeqAt.canLay_of_shaped sd) (room_in_shaped sd hu) ⟨.bl _, H, I, rfl, q⟩
  · obtain ⟨bs, r2⟩ := Dp.reads I (.tuple (zs.map PyData.str)) (.ref p) u (.tup he (dp_strs zs)) ry
    exact SeqAt.in_tuple_reads r2 r1 (SeqAt.canLay_of_shaped se) (SeqAt.canLay_of_shaped sd) (room_in_shaped sd hu) ⟨.bl _, H, I, rfl, q⟩
theorem op_ninN (hu : X.A.units + 65 < cLine) : OpR X (compareOp .NotIn) (rNinN X.K) := by
  intro pins s σ H x y v u Q I rx ry h
  obtain ⟨d, zs, p, rfl, hd, sd, he, se, q⟩ := h
  rw [← any_eqv] at q
  obtain ⟨as, r1⟩ := Dp.reads I d x v hd rx
  rcases he with he | he
  · obtain ⟨bs, r2⟩ := Dp.reads I (.list (zs.map PyData.str)) (.ref p) u (.lst he (dp_strs zs)) ry
    exact SeqAt.notIn_list_reads r2 r1 (SeqAt.canLay_of_shaped se) (SeqAt.canLay_of_shaped sd) (room_in_shaped sd hu) ⟨.bl _, H, I, rfl, q⟩
  · obtain ⟨bs, r2⟩ := Dp.reads I (.tuple (zs.map PyData.str)) (.ref p) u (.tup he (dp_strs zs)) ry
    exact SeqAt.notIn_tuple_reads r2 r1 (SeqAt.canLay_of_shaped se) (SeqAt.canLay_of_shaped sd) (room_in_shaped sd hu) ⟨.bl _, H, I, rfl, q⟩
/-- a statement that is never come to -/
theorem ps_nv {st : Stmt} : PS X st (fun _ _ _ => False) := ⟨fun _ _ _ _ _ _ h => h.elim⟩
end
/-! ### sizes -/
mutual
theorem lay_nice {B L : Nat} : ∀ {d : PyData}, Nice B L d → d.canLay0 = true
  | .none, _ => rfl
  | .bool _, _ => rfl
  | .int _, _ => rfl
  | .str z, h => by
    show PyData.strOk z = true
    unfold PyData.strOk
    rw [Array.all_eq_true']
    intro x hx
    have := h x (by unfold cl; exact Array.mem_toList_iff.mpr hx)
    simp; omega
  | .list ds, h => layAll_nice h.2
  | .tuple ds, h => layAll_nice h.2
  | .dict _, h => h.elim
theorem layAll_nice {B L : Nat} : ∀ {ds : List PyData}, NiceAll B L ds → PyData.canLayAll0 ds = true
  | [], _ => rfl
  | d :: ds, h => by
    show (d.canLay0 && PyData.canLayAll0 ds) = true
    rw [lay_nice h.1, layAll_nice h.2]; rfl
end
theorem shaped_nice {B L : Nat} {d : PyData} (h : Nice B L d) (hd : d.depth ≤ 60) : SeqAt.shaped d = true := by
  unfold SeqAt.shaped
  rw [lay_nice h, decide_eq_true (show d.depth ≤ 64 by omega)]; rfl
theorem shaped_str {z : Str} (h : NameOk z) : SeqAt.shaped (.str z) = true := by
  show (PyData.strOk z && decide (0 ≤ 64)) = true
  rw [strOk_name h]; rfl
theorem shaped_mem {ds : List PyData} {d : PyData} (h : SeqAt.shaped (.tuple ds) = true) (m : d ∈ ds) : SeqAt.shaped d = true := by
  have h' : (PyData.canLayAll0 ds && decide (PyData.depthAll ds + 1 ≤ 64)) = true := h
  rw [Bool.and_eq_true, decide_eq_true_eq] at h'
  have hd := depth_mem m
  unfold SeqAt.shaped
  rw [decide_eq_true (show d.depth ≤ 64 by omega), Bool.and_true]
  have g : ∀ {l : List PyData}, PyData.canLayAll0 l = true → d ∈ l → d.canLay0 = true := by
    intro l
    induction l with
    | nil => intro _ m; cases m
    | cons e l ih =>
      intro h m
      have h2 : (e.canLay0 && PyData.canLayAll0 l) = true := h
      rw [Bool.and_eq_true] at h2
      rcases List.mem_cons.mp m with rfl | m
      · exact h2.1
      · exact ih h2.2 m
  exact g h'.1 m
/-! ### the tables handed along -/
structure Tabs (K : PySem.W.Frag) (H : Hp) (tp : Addr) (ts : List Tab) : Prop where
  dp : Dp K H (.ref tp) (.tuple (ts.map tabD))
  ok : TabsOk 5 ts
  l0 : 0 < ts.length
  l8 : ts.length ≤ 8
theorem Tabs.same {K : PySem.W.Frag} {H H' : Hp} {tp : Addr} {ts : List Tab} (h : Tabs K H tp ts) (s : Same H H') : Tabs K H' tp ts := ⟨dp_same s h.dp, h.ok, h.l0, h.l8⟩
theorem Tabs.parts {K : PySem.W.Frag} {H : Hp} {tp : Addr} {ts : List Tab} (h : Tabs K H tp ts) : ∃ xs, SqT K H tp xs ∧ DpAll K H xs (ts.map tabD) ∧ xs.length = ts.length := by
  cases h.dp with
  | tup h1 h2 => exact ⟨_, h1, h2, by rw [dpAll_len h2, List.length_map]⟩
/-- one of the tables, taken apart -/
theorem tab_at {K : PySem.W.Frag} {H : Hp} {xs : List V} {ts : List Tab} {i : Nat} {x : V} (h : DpAll K H xs (ts.map tabD)) (hx : xs[i]? = some x) : ∃ (t : Tab) (q pc : Addr) (ys : List V), ts[i]? = some t ∧ x = .ref q ∧ SqT K H q [.str t.1, .ref pc] ∧ SqT K H pc ys ∧ DpAll K H ys (t.2.map colD) := by
  obtain ⟨dd, h1, h2⟩ := dpAll_get i h hx
  rw [List.getElem?_map] at h1
  obtain ⟨t, ht, rfl⟩ := Option.map_eq_some_iff.mp h1
  cases h2 with
  | tup g1 g2 =>
    cases g2 with
    | cons g3 g4 =>
      cases g4 with
      | cons g5 g6 =>
        cases g6
        cases g3
        cases g5 with
        | tup k1 k2 => exact ⟨t, _, _, _, ht, rfl, g1, k1, k2⟩
theorem col_at {K : PySem.W.Frag} {H : Hp} {ys : List V} {cs : List Col} {i : Nat} {x : V} (h : DpAll K H ys (cs.map colD)) (hx : ys[i]? = some x) : ∃ (co : Col) (q : Addr) (y : V), cs[i]? = some co ∧ x = .ref q ∧ SqT K H q [.str co.1, y] := by
  obtain ⟨dd, h1, h2⟩ := dpAll_get i h hx
  rw [List.getElem?_map] at h1
  obtain ⟨co, hco, rfl⟩ := Option.map_eq_some_iff.mp h1
  cases h2 with
  | tup g1 g2 =>
    cases g2 with
    | cons g3 g4 =>
      cases g4 with
      | cons g5 g6 =>
        cases g6
        cases g3
        exact ⟨co, _, _, hco, rfl, g1⟩
abbrev tns (ts : List Tab) : List Str := ts.map (·.1)
def colsOf (ts : List Tab) (t : Str) : List Col := match ts.find? (fun x => x.1 == t) with
  | some x => x.2
  | none => []
abbrev cns (ts : List Tab) (t : Str) : List Str := (colsOf ts t).map (·.1)
theorem colsOf_mem {ts : List Tab} (nd : (ts.map (·.1)).Nodup) {x : Tab} (hx : x ∈ ts) : colsOf ts x.1 = x.2 := by
  unfold colsOf
  induction ts with
  | nil => cases hx
  | cons a r ih =>
    rw [List.map_cons, List.nodup_cons] at nd
    rw [List.find?_cons]
    by_cases e : a.1 = x.1
    · rw [show (a.1 == x.1) = true by simp [e]]
      rcases List.mem_cons.mp hx with h | h
      · rw [h]
      · exact absurd (List.mem_map.mpr ⟨x, h, e.symm⟩) nd.1
    · rw [show (a.1 == x.1) = false by simp [e]]
      rcases List.mem_cons.mp hx with h | h
      · exact absurd (by rw [h]) e
      · exact ih nd.2 h
theorem tns_len {ts : List Tab} : (tns ts).length = ts.length := List.length_map ..
theorem tab_of {ts : List Tab} (nd : (ts.map (·.1)).Nodup) {t : Str} (h : t ∈ tns ts) : ∃ x ∈ ts, x.1 = t ∧ colsOf ts t = x.2 := by
  obtain ⟨x, hx, rfl⟩ := List.mem_map.mp h
  exact ⟨x, hx, rfl, colsOf_mem nd hx⟩
end TT

set_option Elab.async false
set_option linter.all false
set_option maxRecDepth 100000
namespace TT
open PySem PySem.Spec PyProof.Rows L2
/-! ### what ties are, of data -/
def kindsK : List Str := ["bar", "carry", "look"]
def kindsA : List Str := ["bar", "carry", "empty", "fallback", "look"]
def whens : List Str := ["once", "end"]
def wys (ts : List Tab) (b c : PyData) : List Str := if (cns ts (strOf b)).head? = some (strOf c) then kindsK else kindsA
def tieP (ts : List Tab) : List PyData → Bool
  | [a, b, c, o, g, u, w] => nameB a && (inS (tns ts) b && (inS (tns ts) o && (inS (cns ts (strOf b)) c && (inS (wys ts b c) g && (inS (wys ts b c) u && inS whens w)))))
  | _ => false
def tieB (ts : List Tab) : PyData → Bool
  | .tuple ds => tieP ts ds
  | _ => false
def tiesB (ts : List Tab) : PyData → Bool
  | .tuple ds => decide (ds.length ≤ 10) && (ds.all (tieB ts) && decide (namesOf ds).Nodup)
  | _ => false
theorem shaped_kinds : SeqAt.shaped (.list (kindsK.map PyData.str)) = true ∧ SeqAt.shaped (.list (kindsA.map PyData.str)) = true ∧ SeqAt.shaped (.list (whens.map PyData.str)) = true := by
  constructor
  · decide +kernel
  · constructor <;> decide +kernel
theorem seven_of {α : Type} : ∀ {l : List α}, l.length = 7 → ∃ a b c o g u w, l = [a, b, c, o, g, u, w]
  | [a, b, c, o, g, u, w], _ => ⟨a, b, c, o, g, u, w, rfl⟩
  | [], h => by cases h
  | [_], h => by cases h
  | [_, _], h => by cases h
  | [_, _, _], h => by cases h
  | [_, _, _, _], h => by cases h
  | [_, _, _, _, _], h => by cases h
  | [_, _, _, _, _, _], h => by cases h
  | _ :: _ :: _ :: _ :: _ :: _ :: _ :: _ :: _, h => by simp at h
theorem tieP_len (ts : List Tab) : ∀ {ds : List PyData}, ¬ ds.length = 7 → tieP ts ds = false
  | [a, b, c, o, g, u, w], h => absurd rfl h
  | [], _ => rfl
  | [_], _ => rfl
  | [_, _], _ => rfl
  | [_, _, _], _ => rfl
  | [_, _, _, _], _ => rfl
  | [_, _, _, _, _], _ => rfl
  | [_, _, _, _, _, _], _ => rfl
  | _ :: _ :: _ :: _ :: _ :: _ :: _ :: _ :: _, _ => rfl
theorem tup7 {d : PyData} : tupB 7 7 d = true → ∃ ds, d = .tuple ds ∧ ds.length = 7 := by
  intro h
  cases d with
  | tuple ds =>
    have h' : (decide ((7 : Int) ≤ (ds.length : Int)) && decide ((ds.length : Int) ≤ 7)) = true := h
    rw [Bool.and_eq_true] at h'
    have g1 := of_decide_eq_true h'.1
    have g2 := of_decide_eq_true h'.2
    exact ⟨ds, rfl, by omega⟩
  | _ => cases h
theorem ntup7 {ts : List Tab} {d : PyData} (h : tupB 7 7 d = false) : tieB ts d = false := by
  cases d with
  | tuple ds =>
    refine tieP_len ts fun e => ?_
    have h' : (decide ((7 : Int) ≤ (ds.length : Int)) && decide ((ds.length : Int) ≤ 7)) = false := h
    rw [e] at h'
    cases h'
  | _ => rfl
/-- the tables' names, shaped -/
theorem tns_ok {ts : List Tab} (h : TabsOk 5 ts) : ∀ z ∈ tns ts, NameOk z := fun z hz => by
  obtain ⟨x, hx, rfl⟩ := List.mem_map.mp hz
  exact h.nm x hx
theorem cns_ok {ts : List Tab} (h : TabsOk 5 ts) {t : Str} (ht : t ∈ tns ts) : (∀ z ∈ cns ts t, NameOk z) ∧ 0 < (cns ts t).length ∧ (cns ts t).length ≤ 5 ∧ (cns ts t).Nodup := by
  obtain ⟨x, hx, rfl, e⟩ := tab_of h.nd ht
  unfold cns
  rw [e]
  obtain ⟨c, l⟩ := h.cs x hx
  refine ⟨fun z hz => ?_, by rw [List.length_map]; exact l, by rw [List.length_map]; exact c.top, c.nd⟩
  obtain ⟨y, hy, rfl⟩ := List.mem_map.mp hz
  exact c.nm y hy
theorem inS_str {zs : List Str} {d : PyData} (h : inS zs d = true) : ∃ z, d = .str z ∧ z ∈ zs := by
  cases d with
  | str z => exact ⟨z, rfl, of_decide_eq_true h⟩
  | _ => cases h
theorem wys_at {ts : List Tab} {t z z0 : Str} {r0 : List Str} (ez : cns ts t = z0 :: r0) : wys ts (.str t) (.str z) = if z = z0 then kindsK else kindsA := by
  unfold wys
  rw [show (cns ts (strOf (.str t))).head? = some z0 by show (cns ts t).head? = _; rw [ez]; rfl]
  show (if some z0 = some z then kindsK else kindsA) = _
  by_cases e : z = z0
  · rw [if_pos (congrArg some e.symm), if_pos e]
  · rw [if_neg (fun h => e (Option.some.inj h).symm), if_neg e]
theorem u65 {k : Nat} {A : Around} (r : Room k A) : A.units + 65 < cLine := by have := r.un; omega
end TT

set_option Elab.async false
set_option linter.all false
set_option maxRecDepth 100000
namespace TT
open PySem PySem.Spec PyProof.Rows L2
theorem tie_at {K : PySem.W.Frag} {H : Hp} {ts : List Tab} {v : V} {d : PyData} (hd : Dp K H v d) (h : tieB ts d = true) : ∃ p xs z, v = .ref p ∧ SqT K H p (.str z :: xs) ∧ fstD d = .str z := by
  cases hd with
  | non => cases h
  | bl b => cases h
  | int i => cases h
  | str z => cases h
  | lst _ _ => cases h
  | tup hS hA =>
    rename_i p xs ds
    have h7 : ds.length = 7 := Decidable.byContradiction fun e => by
      have h' : tieP ts ds = true := h
      rw [tieP_len ts e] at h'; cases h'
    obtain ⟨a, b, c, o, g, u, w, rfl⟩ := seven_of h7
    have h' : (nameB a && _) = true := h
    rw [Bool.and_eq_true] at h'
    cases hA with
    | cons ha r =>
      obtain ⟨z, rfl, rfl, _⟩ := name_at ha h'.1
      exact ⟨_, _, z, rfl, hS, rfl⟩
end TT

set_option Elab.async false
set_option linter.all false
set_option maxRecDepth 100000
namespace TT
open PySem PySem.Spec PyProof.Rows L2
theorem mem5 (z : Str) : decide (z ∈ ([Str.ofString "bar", Str.ofString "carry", Str.ofString "look", Str.ofString "empty", Str.ofString "fallback"] : List Str)) = decide (z ∈ kindsA) := by
  refine decide_eq_decide.mpr ?_
  unfold kindsA
  simp only [List.mem_cons, List.not_mem_nil, or_false]
  constructor
  · rintro (h | h | h | h | h) <;> simp [h]
  · rintro (h | h | h | h | h) <;> simp [h]
theorem nameB_of {z : Str} (h : NameOk z) : nameB (.str z) = true := by
  show ((decide (1 ≤ z.length) && decide (z.length ≤ 8)) && (cl z).all lowB) = true
  have h1 : 1 ≤ z.length := h.pos
  have h2 : z.length ≤ 8 := h.top
  rw [decide_eq_true h1, decide_eq_true h2]
  show (cl z).all lowB = true
  refine List.all_eq_true.mpr fun c hc => ?_
  have := h.low c hc
  unfold low at this
  unfold lowB
  rw [decide_eq_true this.1, decide_eq_true this.2]; rfl
theorem tieB_of {ts : List Tab} {n t c o g u w : Str} (hn : NameOk n) (ht : t ∈ tns ts) (ho : o ∈ tns ts) (hc : c ∈ cns ts t) (hg : g ∈ wys ts (.str t) (.str c)) (hu : u ∈ wys ts (.str t) (.str c)) (hw : w ∈ whens) :
    tieB ts (.tuple [.str n, .str t, .str c, .str o, .str g, .str u, .str w]) = true := by
  show (nameB (.str n) && (decide (t ∈ tns ts) && (decide (o ∈ tns ts) && (decide (c ∈ cns ts t) && (decide (g ∈ wys ts (.str t) (.str c)) && (decide (u ∈ wys ts (.str t) (.str c)) && decide (w ∈ whens))))))) = true
  rw [nameB_of hn, decide_eq_true ht, decide_eq_true ho, decide_eq_true hc, decide_eq_true hg, decide_eq_true hu, decide_eq_true hw]; rfl
theorem strs_get {zs : List Str} {j : Nat} {v : V} (h : (zs.map V.str)[j]? = some v) : ∃ z ∈ zs, v = .str z := by
  rw [List.getElem?_map] at h
  obtain ⟨z, hz, rfl⟩ := Option.map_eq_some_iff.mp h
  exact ⟨z, List.mem_of_getElem? hz, rfl⟩
section
variable {P : Program} {w : World} {K : PySem.W.Frag} {mg : Str → Option Value} {base : Heap}
def spTies (K : PySem.W.Frag) : Sp := fun vs H Q _ => ∃ (s c : Addr) (T : Nat) (tp : Addr) (ts : List Tab) (m : Nat), vs = [.ref s, .ref tp, .int m] ∧ StAt H s c T ∧ T + 200 ≤ 1000000 ∧ m ≤ 20 ∧ tp ∉ [s, c] ∧ Tabs K (msk [s, c] H) tp ts ∧
  ∀ (p : Addr) (es : List PyData) (H' : Hp), es.length = m → (namesOf es).Nodup → (∀ e ∈ es, tieB ts e = true) → H p = none → Dp K (msk [s, c] H') (.ref p) (.tuple es) → StAt H' s c (T + 200) → Kept [s, c] H H' → Q (.ref p) H'
abbrev s_law_ties : Stmt := topS 18
abbrev N_law_ties : List Str := ["state", "tables", "many", "found", "name", "table", "columns", "at", "other", "ways", "gone", "turned", "when"]
theorem sc_law_ties : FnScope N_law_ties ["state", "tables", "many"] (defScope s_law_ties) := ⟨rfl, rfl, rfl, by decide +kernel, rfl, by decide +kernel, by decide +kernel⟩

set_option maxHeartbeats 4000000 in
theorem ok_law_ties {f : Addr} {fd : FuncData} (F : Fun K "_law_ties" "_law_ties" s_law_ties f fd) (nb : NB mg) (D_law_take : Def P w K mg base 1 "_law_take" ["state", "many"] spTake) (D_law_some : Def P w K mg base 2 "_law_some" ["state", "things"] (spSome K))
    (D_law_names : Def P w K mg base 2 "_law_names" ["state", "many"] spNames) : FnOk P w K mg base CX0 3 f fd ["state", "tables", "many"] (spTies K) := by
  refine F.ok sc_law_ties (fun vs H Q E h => ?_) (fun cdv A outer sh H vs Q E hr h => ?_)
  · obtain ⟨s, c, T, tp, ts, m, rfl, _⟩ := h
    rfl
  · obtain ⟨s, c, T, tp, ts, m, rfl, S, hT, hm, htp, hTb, q⟩ := h
    have nd := sc_law_ties.nd
    have hu := hu_of hr
    refine ⟨_, (pss_cons (ps_set (i := 3) nd rfl (Or.inl rfl) (pe_lst pa_nil))
      (pss_cons (ps_for PassesOwn.never rfl (pi_list (pe_own D_law_names hr (pa_cons (pv 0) (pa_cons (pv 2) pa_nil)))) (pg_name (i := 4) nd rfl (Or.inl rfl))
        (pss_cons (ps_asg (pe_own D_law_some hr (pa_cons (pv 0) (pa_cons (pv 1) pa_nil))) (pg_tup rfl (pgs_cons (pg_name (i := 5) nd rfl (Or.inl rfl)) (pgs_cons (pg_name (i := 6) nd rfl (Or.inl rfl)) pgs_nil))))
        (pss_cons (ps_par (i := 7) (j := 8) (by rfl) nd rfl rfl (by decide) rfl rfl (pa_cons (pe_own D_law_take hr (pa_cons (pv 0) (pa_cons (pe_callB call_len_seq (by rfl) nb.b_len (by decide +kernel) (pa_cons (pv 6) pa_nil)) pa_nil))) (pa_cons (pe_ix ix_seq (pe_own D_law_some hr (pa_cons (pv 0) (pa_cons (pv 1) pa_nil))) pe_int (fun _ _ => rfl)) pa_nil)) (by rfl))
        (pss_cons (ps_set (i := 9) nd rfl (Or.inl rfl) (pe_op op_cat (pe_lst (pa_cons pe_str (pa_cons pe_str (pa_cons pe_str pa_nil)))) (pe_op op_rep (pe_lst (pa_cons pe_str (pa_cons pe_str pa_nil))) (pe_callTy call_int1 (by rfl) nb.b_int (by decide +kernel) (pa_cons (pe_cmpR op_gt (pv 7) pe_int (nomark _)) pa_nil)))))
        (pss_cons (ps_par3 (i := 10) (j := 11) (l := 12) (by rfl) nd rfl rfl rfl (by decide) (by decide) (by decide) rfl rfl rfl (pa_cons (pe_own D_law_some hr (pa_cons (pv 0) (pa_cons (pv 9) pa_nil))) (pa_cons (pe_own D_law_some hr (pa_cons (pv 0) (pa_cons (pv 9) pa_nil))) (pa_cons (pe_ix ix_list (pe_lst (pa_cons pe_str (pa_cons pe_str pa_nil))) (pe_own D_law_take hr (pa_cons (pv 0) (pa_cons pe_int pa_nil))) (fun _ _ => rfl)) pa_nil))) (by rfl))
        (pss_one (ps_expr (pe_bm PySem.F.plainAttrs_list PySem.F.slot_list_append PySem.F.type_list_append mt_append (pv 3) (pa_cons (pe_tup (pa_cons (pv 4) (pa_cons (pv 5) (pa_cons (pe_ix ix_seq (pe_ix ix_tup (pv 6) (pv 7) (fun _ _ => rfl)) pe_int (fun _ _ => rfl)) (pa_cons (pv 8) (pa_cons (pv 10) (pa_cons (pv 11) (pa_cons (pv 12) pa_nil)))))))) pa_nil)))))))))
      (pss_one (ps_ret (pe_callTy call_tuple_of (by rfl) nb.b_tuple (by decide +kernel) (pa_cons (pv 3) pa_nil)))))), ?_⟩
    have l8 := hTb.l8
    have l0 := hTb.l0
    refine ⟨Nat.zero_le _, fun P3 n3 => ?_⟩
    have S1 := S.upd_new (o := .lst []) n3
    have ns3 := S.nes n3
    have nc3 := S.nec n3
    have out3 : P3 ∉ [s, c] := by simp [ns3.symm, nc3.symm]
    have e3 : (upd H P3 (.lst [])) P3 = some (.lst []) := upd_same
    have K01 : Kept [P3, s, c] H (upd H P3 (.lst [])) := Kept.upd_new n3
    -- the tables, wherever the state and the list that grows are masked
    have tb3 : ∀ {H' : Hp}, Kept [P3, s, c] H H' → Tabs K (msk [P3, s, c] H') tp ts := fun {H'} k => hTb.same ((msk_new n3).trans (msk_same k))
    -- for name in ..
    refine ⟨.ref s, rfl, .int m, rfl, s, c, _, m, rfl, S1, by omega, by omega, fun pn zs H2 lz ndz okz nfz ez S2 K2 => ⟨pn, rfl, ⟨_, .inl (.inl ez)⟩, ?_⟩⟩
    have e3' : H2 P3 = some (.lst []) := K2.at e3 out3
    have ncn : pn ≠ P3 := fun z => by
      rw [z, e3] at nfz
      cases nfz
    have nsn : s ≠ pn := S1.nes nfz
    have ncp : c ≠ pn := S1.nec nfz
    have outn : pn ∉ [P3, s, c] := by simp [ncn, nsn.symm, ncp.symm]
    have up : ∀ {H1 H' : Hp}, Kept [s, c] H1 H' → Kept [P3, s, c] H1 H' := fun {H1 H'} k => k.mono (by intro p hp; exact List.mem_cons_of_mem _ hp)
    have K02 : Kept [P3, s, c] H H2 := K01.trans (up K2)
    refine for_list (K := K) (a := pn) (xs := zs.map V.str) (fun i σ H' => (∃ y4 y5 y6 y7 y8 y9 y10 y11 y12, σ = [some (.ref s), some (.ref tp), some (.int m), some (.ref P3), y4, y5, y6, y7, y8, y9, y10, y11, y12]) ∧
      (∃ (vs : List V) (es : List PyData), H' P3 = some (.lst vs) ∧ DpAll K (msk [P3, s, c] H') vs es ∧ namesOf es = zs.take i ∧ ∀ e ∈ es, tieB ts e = true) ∧ H' pn = some (.lst (zs.map V.str)) ∧ StAt H' s c (T + 30 + i * 6) ∧ Kept [P3, s, c] H H')
      ⟨⟨none, none, none, none, none, none, none, none, none, rfl⟩, ⟨[], [], e3', .nil, rfl, fun _ h => absurd h List.not_mem_nil⟩, ez, S2.mono (by omega), K02⟩ (fun i σ H' _ hP => .inl (.inl hP.2.2.1)) (fun i x σ H3 hx hP => ?_) (fun σ H3 hP => ?_)
    · obtain ⟨⟨y4, y5, y6, y7, y8, y9, y10, y11, y12, rfl⟩, ⟨vs, es, eP, dp, em, okt⟩, en, S3, K3⟩ := hP
      rw [List.getElem?_map] at hx
      obtain ⟨z, hz, rfl⟩ := Option.map_eq_some_iff.mp hx
      have hi : i < zs.length := (List.getElem?_eq_some_iff.mp hz).1
      have im : i < 20 := by omega
      obtain ⟨xs, hTS, hTA, lx⟩ := (tb3 K3).parts
      -- table, columns = some(tables)
      have tS : ∀ {H' : Hp}, Kept [s, c] H3 H' → SqT K H' tp xs := fun {H'} k => sameT ((msk_same (up k)).trans (msk_sub _ _)) hTS
      have sub : ∀ {H' : Hp}, Kept [s, c] H3 H' → Same (msk [P3, s, c] H3) H' := fun {H'} k => (msk_same (up k)).trans (msk_sub _ _)
      refine ⟨.ref s, rfl, .ref tp, rfl, s, c, tp, _, xs, rfl, S3, by omega, htp, .inr (sameT (msk_sub _ _) hTS), by omega, by rw [lx]; exact Nat.lt_of_le_of_lt l8 (by decide), fun j v H4 hj S4 K4 => ?_⟩
      obtain ⟨tb, qq, pc, ys, htb, rfl, h1, h2, h3⟩ := tab_at hTA hj
      have hmt : tb ∈ ts := List.mem_of_getElem? htb
      obtain ⟨okc, lc0⟩ := hTb.ok.cs tb hmt
      have ly : ys.length = tb.2.length := by rw [dpAll_len h3, List.length_map]
      have lt5 := okc.top
      refine ⟨qq, _, rfl, sameT (sub K4) h1, rfl, .str tb.1, _, rfl, .ref pc, _, rfl, rfl, ?_⟩
      -- at, other = ..
      refine ⟨.ref s, rfl, .ref pc, rfl, pc, ys, rfl, .inr (sameT (sub K4) h2), s, c, _, _, rfl, S4, by omega, by omega, by omega, fun d H5 d0 d1 S5 K5 => ?_⟩
      have K35 := K4.trans K5
      refine ⟨.ref s, rfl, .ref tp, rfl, s, c, tp, _, xs, rfl, S5, by omega, htp, .inr (tS K35), by omega, by rw [lx]; exact Nat.lt_of_le_of_lt l8 (by decide), fun j2 v2 H6 hj2 S6 K6 => ?_⟩
      obtain ⟨tb2, qq2, pc2, ys2, htb2, rfl, h12, _, _⟩ := tab_at hTA hj2
      have K36 := K35.trans K6
      refine .inr (.inl ⟨qq2, _, 0, .str tb2.1, rfl, rfl, sameT (sub K36) h12, atI_nat (j := 0) rfl, _, _, rfl, ?_⟩)
      obtain ⟨k, rfl⟩ : ∃ k : Nat, d = (k : Int) := ⟨d.toNat, by omega⟩
      have hk : k < tb.2.length := by omega
      -- ways
      refine ⟨(by show 3 ≤ sizeLine; decide), fun L1 n1 => ⟨(by show 2 ≤ sizeLine; decide), fun L2 n2 => ?_⟩⟩
      have sa := same_upd (o := .lst [.str "bar", .str "carry", .str "look"]) n1
      have sb := same_upd (o := .lst [.str "empty", .str "fallback"]) n2
      refine ⟨_, rfl, _, _, rfl, rfl, .inr ⟨_, rfl, ?_⟩⟩
      -- columns[at]
      obtain ⟨cc, hcc0⟩ : ∃ y, tb.2[k]? = some y := ⟨_, List.getElem?_eq_getElem hk⟩
      obtain ⟨y0, hy0, _⟩ := dpAll_at (i := k) h3 (show (tb.2.map colD)[k]? = some (colD cc) by rw [List.getElem?_map, hcc0]; rfl)
      obtain ⟨co, qc, yc, hco, rfl, hqc⟩ := col_at h3 hy0
      have ec : cns ts tb.1 = tb.2.map (·.1) := by unfold cns; rw [colsOf_mem hTb.ok.nd hmt]
      have hcm : (cns ts tb.1)[k]? = some co.1 := by rw [ec, List.getElem?_map, hco]; rfl
      have cnd : (cns ts tb.1).Nodup := by rw [ec]; exact okc.nd
      obtain ⟨z0, rz, ez⟩ : ∃ z0 rz, cns ts tb.1 = z0 :: rz := by
        cases e : cns ts tb.1 with
        | nil => rw [e] at hcm; cases hcm
        | cons a r => exact ⟨a, r, rfl⟩
      have hkz : co.1 = z0 ↔ k = 0 := by
        rw [ez] at hcm cnd
        cases k with
        | zero => exact ⟨fun _ => rfl, fun _ => (Option.some.inj hcm).symm⟩
        | succ k =>
          rw [List.nodup_cons] at cnd
          exact ⟨fun e => absurd (by rw [← e]; exact List.mem_of_getElem? (show rz[k]? = some co.1 from hcm)) cnd.1, fun e => by cases e⟩
      cases hE : decide ((0 : Int) < (k : Int))
      case' true =>
        have e : ¬ co.1 = z0 := fun e => by have := of_decide_eq_true hE; have := hkz.mp e; omega
        refine ⟨L2, 1, _, rfl, rfl, upd_same, by decide, by decide, (by show 2 * 1 ≤ sizeLine; decide), fun L3 n3' => ⟨L1, L3, _, _, rfl, rfl, same_upd n3' _ _ (sb _ _ upd_same), upd_same, (by show 3 + 2 ≤ sizeLine; decide), fun L4 n4 => ?_⟩⟩
        obtain ⟨wz, hwz⟩ : ∃ wz : List Str, wz = [Str.ofString "bar", Str.ofString "carry", Str.ofString "look", Str.ofString "empty", Str.ofString "fallback"] := ⟨_, rfl⟩
        have hwm : ∀ y ∈ wz, y ∈ wys ts (.str tb.1) (.str co.1) := fun y hy => by
          rw [wys_at ez, if_neg e]
          rw [hwz] at hy
          exact (decide_eq_decide.mp (mem5 y)).mp hy
        have lw : 0 < wz.length ∧ wz.length ≤ 5 := by rw [hwz]; decide
        have s67 := ((sa.trans sb).trans (same_upd (o := .lst [.str "empty", .str "fallback"]) n3')).trans (same_upd (o := .lst [.str "bar", .str "carry", .str "look", .str "empty", .str "fallback"]) n4)
        have eW : (upd (upd (upd (upd H6 L1 (.lst [.str "bar", .str "carry", .str "look"])) L2 (.lst [.str "empty", .str "fallback"])) L3 (.lst [.str "empty", .str "fallback"])) L4 (.lst [.str "bar", .str "carry", .str "look", .str "empty", .str "fallback"])) L4 = some (.lst (wz.map V.str)) := by rw [hwz]; exact upd_same
        show tSeq _ _ _ _ (upd (upd (upd (upd H6 L1 (.lst [.str "bar", .str "carry", .str "look"])) L2 (.lst [.str "empty", .str "fallback"])) L3 (.lst [.str "empty", .str "fallback"])) L4 (.lst [.str "bar", .str "carry", .str "look", .str "empty", .str "fallback"]))
        have nL4 : H6 L4 = none := Same.free ((sa.trans sb).trans (same_upd (o := .lst [.str "empty", .str "fallback"]) n3')) n4
        generalize upd (upd (upd (upd H6 L1 (.lst [.str "bar", .str "carry", .str "look"])) L2 (.lst [.str "empty", .str "fallback"])) L3 (.lst [.str "empty", .str "fallback"])) L4 (.lst [.str "bar", .str "carry", .str "look", .str "empty", .str "fallback"]) = H7 at s67 eW ⊢
      case' false =>
        have e : co.1 = z0 := hkz.mpr (by have := of_decide_eq_false hE; omega)
        refine ⟨L2, 0, _, rfl, rfl, upd_same, by decide, by decide, (by show 2 * 0 ≤ sizeLine; decide), fun L3 n3' => ⟨L1, L3, _, _, rfl, rfl, same_upd n3' _ _ (sb _ _ upd_same), upd_same, (by show 3 + 0 ≤ sizeLine; decide), fun L4 n4 => ?_⟩⟩
        obtain ⟨wz, hwz⟩ : ∃ wz : List Str, wz = kindsK := ⟨_, rfl⟩
        have hwm : ∀ y ∈ wz, y ∈ wys ts (.str tb.1) (.str co.1) := fun y hy => by
          rw [wys_at ez, if_pos e]
          rw [hwz] at hy
          exact hy
        have lw : 0 < wz.length ∧ wz.length ≤ 5 := by rw [hwz]; decide
        have s67 := ((sa.trans sb).trans (same_upd (o := .lst []) n3')).trans (same_upd (o := .lst [.str "bar", .str "carry", .str "look"]) n4)
        have eW : (upd (upd (upd (upd H6 L1 (.lst [.str "bar", .str "carry", .str "look"])) L2 (.lst [.str "empty", .str "fallback"])) L3 (.lst [])) L4 (.lst [.str "bar", .str "carry", .str "look"])) L4 = some (.lst (wz.map V.str)) := by rw [hwz]; exact upd_same
        show tSeq _ _ _ _ (upd (upd (upd (upd H6 L1 (.lst [.str "bar", .str "carry", .str "look"])) L2 (.lst [.str "empty", .str "fallback"])) L3 (.lst [])) L4 (.lst [.str "bar", .str "carry", .str "look"]))
        have nL4 : H6 L4 = none := Same.free ((sa.trans sb).trans (same_upd (o := .lst []) n3')) n4
        generalize upd (upd (upd (upd H6 L1 (.lst [.str "bar", .str "carry", .str "look"])) L2 (.lst [.str "empty", .str "fallback"])) L3 (.lst [])) L4 (.lst [.str "bar", .str "carry", .str "look"]) = H7 at s67 eW ⊢
      all_goals
        have S7 := S6.same s67
        have K37 := K36.trans (Kept.of_same (M := [s, c]) s67)
        have outW : L4 ∉ [s, c] := by simp [(S6.nes nL4).symm, (S6.nec nL4).symm]
        have lwm : (wz.map V.str).length = wz.length := List.length_map ..
        -- gone, turned, when
        refine ⟨.ref s, rfl, .ref L4, rfl, s, c, L4, _, wz.map V.str, rfl, S7, by omega, outW, .inl (.inl (.inl eW)), by omega, by rw [lwm]; exact Nat.lt_of_le_of_lt lw.2 (by decide), fun j3 v3 H8 hj3 S8 K8 => ?_⟩
        obtain ⟨g, hg, rfl⟩ := strs_get hj3
        have eW8 := K8.at eW outW
        refine ⟨.ref s, rfl, .ref L4, rfl, s, c, L4, _, wz.map V.str, rfl, S8, by omega, outW, .inl (.inl (.inl eW8)), by omega, by rw [lwm]; exact Nat.lt_of_le_of_lt lw.2 (by decide), fun j4 v4 H9 hj4 S9 K9 => ?_⟩
        obtain ⟨u, hu2, rfl⟩ := strs_get hj4
        refine ⟨(by show 2 ≤ sizeLine; decide), fun L5 n5 => ?_⟩
        have S10 := S9.upd_new (o := .lst [.str "once", .str "end"]) n5
        have out5 : L5 ∉ [s, c] := by simp [(S9.nes n5).symm, (S9.nec n5).symm]
        refine ⟨.ref s, rfl, s, c, _, _, rfl, S10, by omega, by decide, by decide, fun e2 H11 g0 g1 S11 K11 => ?_⟩
        have e511 : H11 L5 = some (.lst [.str "once", .str "end"]) := K11.at upd_same out5
        obtain ⟨wh, hwh, hat⟩ : ∃ wh ∈ whens, atI [V.str "once", V.str "end"] e2 = some (.str wh) := by
          have : e2 = 0 ∨ e2 = 1 := by omega
          rcases this with rfl | rfl
          · exact ⟨"once", by simp [whens], rfl⟩
          · exact ⟨"end", by simp [whens], rfl⟩
        refine ⟨L5, _, _, _, rfl, rfl, .inl (.inl e511), hat, _, _, _, rfl, ?_⟩
        have K311 : Kept [s, c] H3 H11 := ((K37.trans (K8.trans K9)).trans (Kept.upd_new n5)).trans K11
        -- found.append(..)
        have eP11 : H11 P3 = some (.lst vs) := K311.at eP out3
        refine ⟨.ref P3, rfl, .inl ⟨rfl, _, .inl (.inl eP11)⟩, .str z, rfl, .str tb.1, rfl, .ref pc, rfl, _, rfl, pc, ys, _, _, rfl, rfl, sameT (sub K311) h2, atI_nat (j := k) hy0, .inr (.inl ⟨qc, _, 0, .str co.1, rfl, rfl, sameT (sub K311) hqc, atI_nat (j := 0) rfl, .str tb2.1, rfl, .str g, rfl, .str u, rfl, .str wh, rfl, ?_⟩)⟩
        refine ⟨(by show 7 ≤ sizeLine; decide), fun t nt => ?_⟩
        have n3t : P3 ≠ t := ne_of_none eP11 nt
        have nst := S11.nes nt
        have nct := S11.nec nt
        have Kd : Kept [P3, s, c] H11 (upd (upd H11 t (.tup [.str z, .str tb.1, .str co.1, .str tb2.1, .str g, .str u, .str wh])) P3 (.lst (vs ++ [.ref t]))) := (Kept.upd_new nt).trans (Kept.upd_in (List.mem_cons_self ..))
        have Ke := (up K311).trans Kd
        have elen : es.length = i := by
          have h1 := congrArg List.length em
          unfold namesOf at h1
          rw [List.length_map, List.length_take] at h1
          omega
        have vlen : vs.length = i := by rw [dpAll_len dp]; exact elen
        refine ⟨P3, vs, _, rfl, rfl, (by rw [upd_ne n3t]; exact eP11), by rw [vlen]; exact small1000 (by omega), ⟨_, _, _, _, _, _, _, _, _, rfl⟩, ⟨_, es ++ [.tuple [.str z, .str tb.1, .str co.1, .str tb2.1, .str g, .str u, .str wh]], upd_same, ?_, ?_, ?_⟩, Ke.at en outn, ((S11.upd_new nt).upd ns3 nc3).mono (by omega), K3.trans Ke⟩
        · refine dpAll_snoc (dpAll_same (msk_same Ke) dp) ?_
          refine .tup (xs := [.str z, .str tb.1, .str co.1, .str tb2.1, .str g, .str u, .str wh]) (.inl (.inl ?_)) (.cons (.str z) (.cons (.str _) (.cons (.str _) (.cons (.str _) (.cons (.str _) (.cons (.str _) (.cons (.str _) .nil)))))))
          unfold msk
          rw [if_neg (by simp [n3t.symm, nst.symm, nct.symm]), upd_ne n3t.symm, upd_same]
        · unfold namesOf at em ⊢
          rw [List.map_append, em, List.take_add_one, hz]; rfl
        · intro x hx
          rcases List.mem_append.mp hx with h | h
          · exact okt x h
          · rw [List.mem_singleton.mp h]
            exact tieB_of (okz z (List.mem_of_getElem? hz)) (List.mem_map.mpr ⟨tb, hmt, rfl⟩) (List.mem_map.mpr ⟨tb2, List.mem_of_getElem? htb2, rfl⟩) (List.mem_of_getElem? hcm) (hwm g hg) (hwm u hu2) hwh
    · obtain ⟨⟨y4, y5, y6, y7, y8, y9, y10, y11, y12, rfl⟩, ⟨vs, es, eP, dp, em, okt⟩, en, S3, K3⟩ := hP
      have lzz : (zs.map V.str).length = zs.length := List.length_map ..
      rw [lzz] at em S3
      rw [List.take_length] at em
      have tl : es.length = zs.length := by rw [← em]; unfold namesOf; rw [List.length_map]
      refine ⟨.ref P3, rfl, P3, vs, rfl, .inl ⟨.inl (.inl eP), fun t nt => ?_⟩⟩
      have n3t : P3 ≠ t := ne_of_none eP nt
      have nst := S3.nes nt
      have nct := S3.nec nt
      have Kf : Kept [P3, s, c] H3 (upd H3 t (.tup vs)) := Kept.upd_new nt
      refine q t es _ (by omega) (by rw [em]; exact ndz) okt (K3.fresh nt ?_) ?_ ((S3.upd_new nt).mono (by omega)) ((K3.trans Kf).new n3)
      · intro b hb
        simp only [List.mem_cons, List.not_mem_nil, or_false] at hb
        rcases hb with rfl | rfl | rfl
        · exact n3t
        · exact nst
        · exact nct
      · refine .tup (xs := vs) (.inl (.inl ?_)) ?_
        · unfold msk
          rw [if_neg (by simp [nst.symm, nct.symm]), upd_same]
        · exact dpAll_same (msk_less (M := [P3, s, c]) (by intro p hp; exact List.mem_cons_of_mem _ hp)) (dpAll_same (msk_same Kf) dp)
end
end TT

set_option Elab.async false
set_option linter.all false
set_option maxRecDepth 100000
namespace TT
open PySem PySem.Spec PyProof.Rows L2
/-! ### an exception that was caught and is kept: tracked behind its suite -/
def exk (a : Addr) (cls : Value) (d : Option Addr) : HO := .ext fun h => ∃ oe vs, h.get? a = some oe ∧ Zc cls d oe ∧ oe.data = .fields vs
theorem exk_ok {P : Program} {w : World} {H : Hp} {h : Heap} {a : Addr} {cls : Value} {d : Option Addr} {oe : Obj} {vs : Array Value} (e : h.get? a = some oe) (z : Zc cls d oe) (f : oe.data = .fields vs) : ObjOk P w H h a (exk a cls d) :=
  ⟨⟨oe, vs, e, z, f⟩, ⟨oe, e⟩, fun h1 h2 ⟨o', v', e', z', f'⟩ k => ⟨o', v', k _ e', z', f'⟩⟩
theorem exk_at {P : Program} {w : World} {H : Hp} {h : Heap} {a : Addr} {cls : Value} {d : Option Addr} (hok : HOk P w H h) (e : H a = some (exk a cls d)) : ∃ oe vs, h.get? a = some oe ∧ Zc cls d oe ∧ oe.data = .fields vs := by
  have x : ObjOk P w H h a (.ext fun h => ∃ oe vs, h.get? a = some oe ∧ Zc cls d oe ∧ oe.data = .fields vs) := hok a _ e
  exact x.1
section
variable {X : Cx} {pins : List (Addr × Obj)} {σ : L2.St} {H : Hp} {s : Shared} {a : Addr} {oe : Obj} {o : HO}
/-- what was pinned is tracked from now on -/
theorem track (I : Inv X ((a, oe) :: pins) σ H s) (h0 : X.s_0.heap.get? a = none) (hp : ∀ p ∈ X.pn ++ pins, p.1 ≠ a) (new : ObjOk X.prog X.w (upd H a o) s.heap a o) : Inv X pins σ (upd H a o) s := by
  obtain ⟨ga, na, nl, nf, nc⟩ := I.pin (a, oe) (List.mem_append_right _ (List.mem_cons_self ..))
  have ga : s.heap.get? a = some oe := ga
  have na : H a = none := na
  have ne0 : ∀ {b : Addr} {u : Obj}, X.s_0.heap.get? b = some u → b ≠ a := fun {b u} e z => by
    rw [z, h0] at e; cases e
  refine ⟨I.ok, I.os, I.bare, ⟨I.base.keep, I.base.slot, fun b u e n hx => ?_, I.base.there, fun b xs e => ?_, fun b u v e => ?_, fun b ps e => ?_⟩, I.loc, I.cell, ?_, fun x c e => ?_, fun p hp' => ?_, fun b u e => ?_, I.len⟩
  · rw [upd_ne (ne0 e)]; exact I.base.free b u e n hx
  · have q := I.base.tups b xs e
    rw [upd_ne (ne_of_none q na)]; exact q
  · have q := I.base.frzs b u v e
    rw [upd_ne (ne_of_none q na)]; exact q
  · obtain ⟨more, q⟩ := I.base.tbls b ps e
    exact ⟨more, by rw [upd_ne (ne_of_none q na)]; exact q⟩
  · rw [upd_ne (Ne.symm nl)]; exact I.free
  · have q : c ≠ a := fun z => by
      obtain ⟨v, hv⟩ := I.cell x c e
      rw [z] at hv
      obtain ⟨oc, e1, e2⟩ := hv
      rw [ga] at e1
      cases e1
      exact nc v e2
    rw [upd_ne q]; exact I.freeC x c e
  · have hm : p ∈ X.pn ++ (a, oe) :: pins := by
      rcases List.mem_append.mp hp' with z | z
      · exact List.mem_append_left _ z
      · exact List.mem_append_right _ (List.mem_cons_of_mem _ z)
    obtain ⟨q1, q2, q3⟩ := I.pin p hm
    exact ⟨q1, by rw [upd_ne (hp p hp')]; exact q2, q3⟩
  · by_cases hb : b = a
    · subst hb
      rw [upd_same] at e
      cases e
      exact new
    · rw [upd_ne hb] at e
      exact (I.hok b u e).stay (fun c v hc q => q) (fun c hc => by rw [upd_ne (ne_of_none hc na)]; exact hc) fun c xs hc => by rw [upd_ne (ne_of_none hc na)]; exact hc
end
/-- what "except x as n: m = n" wishes of an exception of the body: slot i is n's, slot j is m's -/
def wKeep (K : PySem.W.Frag) (c : Value) (i j : Nat) (Wout : WX) (D : Ends) : WX := fun cls d σ H =>
  ∃ b, PySem.W.exmOne K cls c = some b ∧ (b = true → ∀ a, H a = none → D.nx (((σ.set i (some (.ref a))).set j (some (.ref a))).set i none) (upd H a (exk a cls d))) ∧ (b = false → Wout cls d σ H)
section
variable {X : Cx} {x n m : Str} {c : Value} {i j : Nat} {body : List Stmt} {np pos pos' pm pn' ps : Pos} {tb : WX → TS} {Wout : WX}
theorem ps_try_keep (hs : X.stack = X.env :: X.outer) (hf : X.env.frame = some X.env.locals) (hN : X.N.Nodup) (hi : X.N[i]? = some n) (hj : X.N[j]? = some m) (hln : X.env.kindOf n = some .local) (hij : i ≠ j) (hex : X.ex = [])
    (hc : Names X x c) (tk : Takes X Wout)
    (hb : ∀ (W : WX) (pn : List (Addr × Obj)) (xe : Value → Shared → Prop), Takes (X.tr pn xe) W → PassesOwn (model X.prog X.w) X.A X.env xe → PSs (X.tr pn xe) body (tb W))
    (hsu : ∀ (a : Addr) (oe : Obj) (pn : List (Addr × Obj)), PSs (X.suite a ((a, oe) :: pn)) [.Assign [.Name m pm] (.Name n pn') ps] (tAsg (tVar i) (gName j))) :
    PS X (.Try body [.ExceptHandler (some (.Name x np)) (some n) [.Assign [.Name m pm] (.Name n pn') ps] pos'] [] [] pos) (fun D σ H => tb (wKeep X.K c i j Wout D) D σ H) := by
  refine ⟨fun pins s σ H D I h => ?_⟩
  have ok := I.ok
  have frm : X.A.frames = some (X.env :: X.outer) := by rw [ok.frames, hs]
  refine wpAny_Try_except ?_
  let hds : List ExceptHandler := [.ExceptHandler (some (.Name x np)) (some n) [.Assign [.Name m pm] (.Name n pn') ps] pos']
  let XE' : Value → Shared → Prop := fun e s₁ => wpAny (model X.prog X.w) X.A (noteFrame e X.env) (fun _ s₂ => wpAny (model X.prog X.w) X.A (setFlight e none) (fun _ s₃ => wpAny (model X.prog X.w) X.A (handleBy e X.env hds) (SP X pins D) X.xe s₃) X.xe s₂) X.xe s₁
  have hT : Takes (X.tr (X.pn ++ pins) XE') (wKeep X.K c i j Wout D) := by
    intro u s' z
    obtain ⟨a, B, s0, pn0, σ1, H1, cls, d, hu, J0, nb, up, sky, na, os, ag, b, hb1, yes, no⟩ := z
    have hu : u = .ref a := hu
    subst hu
    have J : Inv X pins σ1 H1 s0 := J0.ofTry ok
    have sky : Sky B (X.env :: X.outer) a (Zc cls d) X.env.locals s'.heap := by rw [← hs]; exact sky
    have Ba : B.get? a = none := by
      rcases sky with q | q | q
      · exact q.2.1
      · exact q.2.1
      · exact q.2.1
    show wpAny (model X.prog X.w) X.A (noteFrame (.ref a) X.env) _ _ _
    refine Sky.land Zc.steady frm hf sky fun hA fA uA => ?_
    have JA : Inv X pins σ1 H1 { s' with heap := hA } := J.landed nb fA.1 (up.trans uA) os ag
    obtain ⟨oA, vA, eA, zA, dA⟩ := fA.there
    -- the exception is no frame's record
    have notF : a ∉ frs (X.env :: X.outer) := fun hm => by
      obtain ⟨_, o', e', hnf⟩ := fA.2.2.1.mem hm
      rw [eA] at e'
      cases e'
      exact hnf _ dA
    have nL : a ≠ X.env.locals := fun z => notF (List.mem_filterMap.mpr ⟨X.env, List.mem_cons_self, by rw [hf, z]⟩)
    have nF : a ∉ X.fs := fun hm => by
      obtain ⟨e, he, q⟩ := List.mem_filterMap.mp hm
      exact notF (List.mem_filterMap.mpr ⟨e, List.mem_cons_of_mem _ he, q⟩)
    -- it wasn't there ahead of the body
    have none0 : s0.heap.get? a = none := by
      cases e : s0.heap.get? a with
      | none => rfl
      | some o =>
        have q := nb a o e (by rw [hs]; exact notF)
        rw [Ba] at q
        cases q
    have base0 : X.s_0.heap.get? a = none := by
      cases e : X.s_0.heap.get? a with
      | none => rfl
      | some o =>
        obtain ⟨o', q⟩ := J.base.there a o e (by rw [hex]; exact List.not_mem_nil)
        rw [none0] at q
        cases q
    have pin0 : ∀ p ∈ X.pn ++ pins, p.1 ≠ a := fun p hp z => by
      obtain ⟨q, _⟩ := J.pin p hp
      rw [z, none0] at q
      cases q
    refine wpAny_handleBy_cons (codeAny_handlers_test ?_) (by intro q; cases q)
    have LT : PySem.W.Looks (model X.prog X.w) hA (typeOf (.ref a)) cls := fun A Q E s k q => wpAny_typeOf_ref (k _ _ eA) (by rw [zA.1]; exact q)
    have LM := PySem.W.exm_one (M := model X.prog X.w) (JA.kIn) LT hb1
    have named : ∀ {Q : Value → Shared → Prop} {E : Value → Shared → Prop}, Q c { s' with heap := hA } → wpAny (model X.prog X.w) (X.A.mark (some (.ref a))) (eval (.Name x np) X.env) Q E { s' with heap := hA } := fun {Q E} q => by
      have SA := JA.suite eA dA na nL nF
      obtain ⟨g1, g2, g3 | ⟨g3, g4, g5⟩⟩ := hc
      · exact ld_glob (X := X.suite a ((a, oA) :: (X.pn ++ pins))) SA g1 g3 q g2
      · exact ld_blt (X := X.suite a ((a, oA) :: (X.pn ++ pins))) SA g1 g3 g4 q g5 g2
    refine named (LM.here ?_)
    cases b with
    | true =>
      refine codeAny_handlers_suite_as ?_
      refine HandSPX.lands_againZ fA fun hB fB uB => ?_
      have JB : Inv X pins σ1 H1 { s' with heap := hB } := J.landed nb fB.1 ((up.trans uA).trans uB) os ag
      obtain ⟨oB, vB, eB, zB, dB⟩ := fB.there
      have SB := JB.suite eB dB na nL nF
      refine store_ok (X := X.suite a ((a, oB) :: (X.pn ++ pins))) (v := .ref a) SB hN hi (.inl hln) rfl (fun s5 S5 => ?_) (.inr hln)
      have hil : i < σ1.length := by rw [J.len]; exact (List.getElem?_eq_some_iff.mp hi).1
      refine wpAny_mono ((hsu a oB (X.pn ++ pins)).run [] s5 _ H1 { nx := fun σ' H' => σ' = (σ1.set i (some (.ref a))).set j (some (.ref a)) ∧ H' = H1, rt := fun _ _ => False, bk := fun _ _ => False, ct := fun _ _ => False } S5 ⟨.ref a, by rw [List.getElem?_set_self hil], rfl, rfl⟩) (fun f s6 q => ?_) (fun _ _ z => False.elim z)
      cases f with
      | next =>
        obtain ⟨σ6, H6, S6, e6, e7⟩ := q
        rw [e6, e7] at S6
        obtain ⟨p1, p2, p3, p4, p5⟩ := S6.pin (a, oB) (List.mem_append_left _ List.mem_cons_self)
        have J6 : L2.Inv X ((a, oB) :: pins) ((σ1.set i (some (.ref a))).set j (some (.ref a))) H1 s6 := (S6.unsuite (pins := pins) ok).pins_of fun p hp => by
          rcases List.mem_cons.mp hp with e | hp
          · rw [e]; exact ⟨p1, p2, p3, p4, p5⟩
          · exact (S6.unsuite (pins := pins) ok).pin p (List.mem_append_right _ hp)
        refine gone_ok J6 hN hi hln fun s7 J7 => ?_
        obtain ⟨q1, _⟩ := J7.pin (a, oB) (List.mem_append_right _ List.mem_cons_self)
        exact ⟨_, _, track J7 base0 pin0 (exk_ok q1 zB dB), yes rfl a na⟩
      | brk =>
        obtain ⟨_, _, _, q⟩ := q
        exact q.elim
      | cont =>
        obtain ⟨_, _, _, q⟩ := q
        exact q.elim
      | ret u =>
        obtain ⟨_, _, _, _, _, q⟩ := q
        exact q.elim
    | false =>
      show wpAny _ X.A (handleBy (.ref a) X.env []) _ _ _
      refine wpAny_handleBy_nil ?_
      obtain ⟨_, _, _, oE, vE, T, oT, tE, w1, w2, w3, w4, w5⟩ := id fA
      unfold PySem.passOn
      refine wpAny_bind (wpAny_field w1 w3 w4 ?_)
      rw [if_neg (by simp : ¬ ((Value.ref T == Value.none) = true))]
      have on : wpAny (model X.prog X.w) X.A (setFlight (.ref a) X.env.frame) (fun _ t => wpAny (model X.prog X.w) X.A (throw (.ref a) : Sem Flow) (SP X pins D) X.xe t) X.xe { s' with heap := hA } := by
        rw [hf]
        refine HandSPX.setFlight_upZ fA fun hC fC uC => wpAny_throw (tk _ _ ⟨a, B, s0, pins, σ1, H1, cls, d, rfl, J, nb, (up.trans uA).trans uC, .inr (.inr (by rw [hs]; exact fC)), na, os, ag, no rfl⟩)
      first
        | exact wpAny_bind (wpAny_pure (wpAny_bind on))
        | exact wpAny_bind on
  refine wpAny_mono ((hb _ _ XE' hT PassesOwn.looking).run [] s σ H D (I.toTry _) h) (fun f s1 q => ?_) fun _ _ z => z
  cases f with
  | next =>
    obtain ⟨σ', H', J', q⟩ := q
    exact wpAny_execs_nil ⟨σ', H', J'.ofTry ok, q⟩
  | brk =>
    obtain ⟨σ', H', J', q⟩ := q
    exact ⟨σ', H', J'.ofTry ok, q⟩
  | cont =>
    obtain ⟨σ', H', J', q⟩ := q
    exact ⟨σ', H', J'.ofTry ok, q⟩
  | ret u =>
    obtain ⟨v, σ', H', J', r, q⟩ := q
    exact ⟨v, σ', H', J'.ofTry ok, r, q⟩
end
/-! ### what is asked of a kept one -/
/-- what the class must say -/
structure KxC (K : PySem.W.Frag) (C : Addr) : Prop where
  cl : (PySem.W.clsIn K C).isSome = true
  ga : PySem.W.findIn K (.ref C) "__getattribute__" = some (some (.builtin "BaseException.__getattribute__"))
  gt : PySem.W.findIn K (.ref C) "__getattr__" = some none
  sb : PySem.W.subIn K (.ref C) (.type "BaseException") = some true
  ca : PySem.W.findIn K (.ref C) "__class__" = some (some (.builtin "object.__class__"))
  sp : PySem.W.specialIn K (.builtin "object.__class__") "__get__" = some (some (.builtin "getset_descriptor.__get__"))
  tk : PySem.W.takesIn K (.builtin "object.__class__") = some true
  mo : PySem.W.mroIn K C (.type "object") = some true
  hd : PySem.W.hasDictIn K C = true
section
variable {X : Cx} {pins : List (Addr × Obj)} {σ : L2.St} {H : Hp} {s : Shared} {a C dd : Addr} {fs : List (Str × V)}
theorem kept_inst (I : L2.Inv X pins σ H s) (e : H a = some (exk a (.ref C) (some dd))) (ed : H dd = some (.xd fs)) :
    ∃ (oe od : Obj) (mA : Str → Option Value), PySem.W.InstAt s.heap a oe C (some od) ∧ (∀ f, RelO (fs.lookup f) (mA f)) ∧ ∀ f, PySem.W.lookIn f od = some (mA f) := by
  obtain ⟨oe, vs, e1, e2, e3⟩ := exk_at I.hok e
  obtain ⟨mA, hn, hr⟩ := (show ObjOk X.prog X.w H s.heap dd (.xd fs) from I.hok dd _ ed)
  obtain ⟨od, ho, hl⟩ := lookIn_ns hn
  exact ⟨oe, od, mA, ⟨e1, e2.1, by unfold PySem.W.notCls; rw [e3] <;> rfl, by rw [e2.2]; exact ho⟩, hr, hl⟩
end
/-- isinstance(e, c), e kept -/
def rIsX (K : PySem.W.Frag) : List V → Hp → VK → Prop := fun xs H Q => ∃ (a C dd : Addr) (fs : List (Str × V)) (c : V) (u : Value) (b : Bool), xs = [.ref a, c] ∧ H a = some (exk a (.ref C) (some dd)) ∧ H dd = some (.xd fs) ∧ KxC K C ∧ ClsV c u ∧ PySem.W.kitOne K (.ref C) u = some b ∧ Q (.bl b) H
/-- isinstance(e, (c1, c2, ..)), e kept, the tuple just laid -/
def rIsXT (K : PySem.W.Frag) : List V → Hp → VK → Prop := fun xs H Q => ∃ (a C dd tp : Addr) (fs : List (Str × V)) (cs : List V) (us : List Value) (b : Bool), xs = [.ref a, .ref tp] ∧ H a = some (exk a (.ref C) (some dd)) ∧ H dd = some (.xd fs) ∧ KxC K C ∧ H tp = some (.tup cs) ∧ Paired ClsV cs us ∧
  PySem.W.kitAny K (.ref C) us = some b ∧ Q (.bl b) H
/-- e.f, e kept -/
def tXk (K : PySem.W.Frag) (f : Str) (te : TE) : TE := fun σ H Q => te σ H fun x H1 => ∃ (a C dd : Addr) (fs : List (Str × V)) (v : V), x = .ref a ∧ H1 a = some (exk a (.ref C) (some dd)) ∧ H1 dd = some (.xd fs) ∧ KxC K C ∧ PySem.W.findIn K (.ref C) f = some none ∧ fs.lookup f = some v ∧ Q v H1
section
variable {X : Cx}
theorem call_isX : CallR X (.builtin "isinstance") (rIsX X.K) := by
  intro pins s σ H xs us Q I r h
  obtain ⟨a, C, dd, fs, c, u, b, rfl, ea, ed, T, k, e, q⟩ := h
  obtain ⟨u1, u2, rfl, r1, r2⟩ := vals2 r
  cases (show u1 = Value.ref a from r1)
  have e2 := k.eq r2
  subst e2
  obtain ⟨oe, od, mA, J, _, _⟩ := kept_inst I ea ed
  exact PySem.W.kia_one (PySem.W.kitx_exc T.cl T.ga T.gt T.sb T.ca T.sp T.tk T.mo) I.kIn J e (fun z => nomatch z) fun tk => ⟨.bl b, H, I.tok tk, rfl, q⟩
theorem call_isXT : CallR X (.builtin "isinstance") (rIsXT X.K) := by
  intro pins s σ H xs us Q I r h
  obtain ⟨a, C, dd, tp, fs, cs, ws, b, rfl, ea, ed, T, hT, k, e, q⟩ := h
  obtain ⟨u1, u2, rfl, r1, r2⟩ := vals2 r
  cases (show u1 = Value.ref a from r1)
  cases (show u2 = Value.ref tp from r2)
  obtain ⟨oe, od, mA, J, _, _⟩ := kept_inst I ea ed
  obtain ⟨_, its, rv, o, h1, h2, n, h3⟩ := (show ObjOk X.prog X.w H s.heap tp (.tup cs) from I.hok tp _ hT)
  have e3 := ClsV.all k rv
  subst e3
  obtain ⟨oc, ob, dt, sl⟩ := o
  simp only at h2 h3
  subst h2 h3
  exact PySem.W.kia_tup (PySem.W.kitx_exc T.cl T.ga T.gt T.sb T.ca T.sp T.tk T.mo) I.kIn J h1 e (fun z => nomatch z) fun tk => ⟨.bl b, H, I.tok tk, rfl, q⟩
theorem pe_xk {e : Expr} {te : TE} {pos : Pos} {f : Str} (he : PE X e te) (hb : attributeBase e f X.env (eval e X.env) = eval e X.env := by rfl) : PE X (.Attribute e f pos) (tXk X.K f te) := by
  refine ⟨fun pins s σ H Q I h => attr_of hb (thn (he.run pins s σ H _ I h) fun u s1 z => ?_)⟩
  obtain ⟨x, H1, I1, rx, a, C, dd, fs, v, ex, ea, ed, T, hf, hl, q⟩ := z
  subst ex
  cases (show u = Value.ref a from rx)
  obtain ⟨oe, od, mA, J, hr, lk⟩ := kept_inst I1 ea ed
  obtain ⟨uv, hu, ru⟩ := RelO.some_of (v := v) (o := mA f) (by rw [← hl]; exact hr f)
  exact HandSPX.exc_get I1.kIn J T.ga T.gt T.sb (PySem.W.findObj_own T.hd hf rfl (by rw [lk f, hu])) (handed_of ru) ⟨v, H1, I1.tok _, ru, q⟩
end
end TT

set_option Elab.async false
set_option linter.all false
set_option maxRecDepth 100000
set_option maxHeartbeats 2000000
namespace TT
open PySem PySem.Spec PyProof.Rows L2
/-! ### own classes of error over any built-in one, with an __init__ of their own -/
structure OexG (K : PySem.W.Frag) (C : Addr) : Prop where
  cls : ∃ (B newId initId : String) (bmB : List Value) (nm q : Str) (N : Addr) (bs bm : List Value) (sn : List Str) (sub : List Value) (ab : Bool) (col : Option Bool) (dd : Option Addr) (k0 k1 k2 k3 k5 : Option Value),
    ExcBaseFacts B newId initId bmB ∧ StoreFacts B bmB "object.__setattr__" "object" ∧ K.lookup C = some (excClassObj nm q C N bs bm true sn sub ab col dd k0 k1 k2 k3 k5 newId) ∧ PySem.W.excTail bmB bm = true
  sa : PySem.W.findIn K (.ref C) "__setattr__" = some (some (.builtin "object.__setattr__"))
  exC : PySem.W.subIn K (.ref C) (.type "BaseException") = some true
  tyC : PySem.W.typeIn K (.ref C) = some (.type "type")
  kC : PySem.W.keepIn K (.ref C) = true
section
variable {prog : Program} {w : World} {A : Around} {E : Value → Shared → Prop} {R : Result → Shared → Prop} {hp : Heap} {g : Array GenState} {d : Drawn} {t : Nat} {os : OsState} {K : PySem.W.Frag} {name : Str} {tk : Tok} {v : Value} {x C t1 : Addr}
theorem osg_over (T : OexG K C) : ∃ (B : String) (bmB : List Value), StoreFacts B bmB "object.__setattr__" "object" ∧ PySem.W.excOver K C bmB = true ∧ ∃ cd, PySem.W.clsIn K C = some cd ∧ cd.hasDict = true := by
  obtain ⟨B, newId, initId, bmB, nm, q, N, bs, bm, sn, sub, ab, col, dd, k0, k1, k2, k3, k5, F, SF, hC, hb⟩ := T.cls
  have hcl : PySem.W.clsIn K C = some { name := nm, bases := bs, mro := .ref C :: bm, ns := N, qualname := q, hasDict := true, slotNames := sn, subclasses := sub, abstract := ab, collection := col, hasDel := false } := by unfold PySem.W.clsIn; rw [hC] <;> rfl
  refine ⟨B, bmB, SF, ?_, _, hcl, rfl⟩
  unfold PySem.W.excOver
  rw [hcl]
  show (C == C && PySem.W.excTail bmB bm) = true
  rw [hb, beq_self_eq_true]; rfl
theorem taker_of (h : PySem.W.findIn K (.ref C) name = some none) : PySem.W.takerIn K C name = some none := by
  unfold PySem.W.takerIn
  rw [h]; rfl
/-- the first field of one that is being made -/
theorem osg_new (T : OexG K C) (X : K.In hp) (hx : hp.get? x = some { cls := .ref C, dict := none, data := .fields #[.ref t1, .none, .none, .none, .bool false, .none] }) (hf : PySem.W.findIn K (.ref C) name = some none)
    (hq : ∀ h' tk' dx, (∀ b o, b ≠ x → hp.get? b = some o → h'.get? b = some o) → hp.objs.size ≤ dx → dx ≠ x → h'.get? x = some { cls := .ref C, dict := some dx, data := .fields #[.ref t1, .none, .none, .none, .bool false, .none] } →
      h'.Ns1 dx (fun y => if y = name then some v else none) → R (.ok (.ret .none)) ⟨h', g, d, tk', os⟩) :
    codeAny (model prog w) A (.call (.builtin "object.__setattr__") ⟨[.ref x, .str name tk, v], []⟩) R ⟨hp, g, d, t, os⟩ := by
  obtain ⟨B, bmB, SF, ho, cd, hc, hd⟩ := osg_over T
  refine PySem.W.osa_openX (od := none) SF X ⟨hx, rfl, rfl, trivial⟩ ho (taker_of hf) fun b => ?_
  have nx : x ≠ hp.objs.size := Nat.ne_of_lt (Heap.lt_size hx)
  refine wpAny_bind (wpAny_pure (wpAny_bind (PySem.W.instanceDict_exc hx (PySem.W.looks_clsIn X hc) hd ?_)))
  refine HandSPX.store_in_new ⟨_, #[], _, (Heap.get?_update_ne _ _ _ _ nx.symm).trans (Heap.get?_push_at rfl rfl), rfl, fun e he => absurd he (by simp), fun _ => rfl⟩ fun h' tk' hn sb => ?_
  refine hq h' tk' hp.objs.size (fun b o nb eb => ?_) (Nat.le_refl _) nx.symm ?_ hn
  · exact (sb.2 b (Nat.ne_of_lt (Heap.lt_size eb))).trans ((Heap.get?_update_ne _ _ _ _ nb).trans (Heap.get?_push_of_some _ eb))
  · exact (sb.2 x nx).trans (Heap.get?_update_self _ (Heap.get?_push_of_some _ hx) rfl)
/-- a further field -/
theorem osg_old {dx : Addr} {m0 : Str → Option Value} {nl : List Str} (T : OexG K C) (X : K.In hp) (hx : hp.get? x = some { cls := .ref C, dict := some dx, data := .fields #[.ref t1, .none, .none, .none, .bool false, .none] }) (hf : PySem.W.findIn K (.ref C) name = some none)
    (hns : hp.Ns1 dx m0) (hw : Within m0 nl) (hz : nl.length ≤ 1000)
    (hq : ∀ h' tk', (∀ b o, b ≠ dx → hp.get? b = some o → h'.get? b = some o) → h'.Ns1 dx (fun y => if y = name then some v else m0 y) → R (.ok (.ret .none)) ⟨h', g, d, tk', os⟩) :
    codeAny (model prog w) A (.call (.builtin "object.__setattr__") ⟨[.ref x, .str name tk, v], []⟩) R ⟨hp, g, d, t, os⟩ := by
  obtain ⟨B, bmB, SF, ho, cd, hc, hd⟩ := osg_over T
  obtain ⟨oD, _, _, hoD, _, _⟩ := hns.count hw
  refine PySem.W.osa_openX (od := some oD) SF X ⟨hx, rfl, rfl, hoD⟩ ho (taker_of hf) fun b => ?_
  refine wpAny_bind (wpAny_pure (wpAny_bind (wpAny_bind (wpAny_loadPart hx (wpAny_bind ((PySem.W.looks_clsIn X hc).here ?_))))))
  rw [hd]
  refine wpAny_pure (a := some dx) ?_
  exact PySem.OEX.store_in_old hns hw hz fun h' tk' hn sb => hq h' tk' (fun b o nb eb => (sb.2 b nb).trans eb) hn
end
section
variable {X : Cx} {pins : List (Addr × Obj)} {σ : L2.St} {H : Hp} {s : Shared} {a C dx : Addr} {f : Str} {y : V} {u : Value} {fs : List (Str × V)} {Q : Unit → Shared → Prop} {E : Value → Shared → Prop} {A : Around}
theorem ostg_new (T : OexG X.K C) (I : L2.Inv X pins σ H s) (e : H a = some (exo a C none)) (hno : PySem.W.findIn X.K (.ref C) f = some none) (ry : RelV y u)
    (h : ∀ dx s', H dx = none → dx ≠ a → L2.Inv X pins σ (upd (upd H dx (exd dx [(f, y)])) a (exo a C (some dx))) s' → Q () s') : wpAny (model X.prog X.w) A (setAttr (.ref a) f u) Q E s := by
  obtain ⟨t1, ho⟩ := exo_at I.hok e
  obtain ⟨hp, g, d, t, os⟩ := s
  refine PySem.W.set_plain I.kIn (od := none) ⟨ho, rfl, rfl, trivial⟩ T.sa (osg_new T I.kIn ho hno fun h' tk' dx k dn dne hx hn => ?_)
  have free : H dx = none := I.hok.fresh dn
  have old : ∀ {b : Addr} {o : Obj}, hp.get? b = some o → b ≠ dx := fun q => Nat.ne_of_lt (Nat.lt_of_lt_of_le (Heap.lt_size q) dn)
  have noa : ∀ {b : Addr}, H b = none → b ≠ a := fun n z => by
    rw [z, e] at n; cases n
  have look : ∀ {b : Addr} {v : HO}, H b = some v → exo a C none ≠ v → (upd (upd H dx (exd dx [(f, y)])) a (exo a C (some dx))) b = some v := fun {b v} q ne => by
    rw [upd_ne (at_ne e q ne), upd_ne (ne_of_none q free)]; exact q
  have un : Un X.fs [] H (upd (upd H dx (exd dx [(f, y)])) a (exo a C (some dx))) hp h' := ⟨fun b o q n _ _ => k b o (noa n) q, fun b o q n _ _ => ⟨o.slots, k b o (noa n) q⟩,
    fun b o q n _ => by rw [upd_ne (noa n), upd_ne (old q)]; exact n,
    fun b o q _ => by
      by_cases hb : b = a
      · exact ⟨_, by rw [hb]; exact hx⟩
      · exact ⟨o, k b o hb q⟩,
    fun b xs q => look q exo_tup, fun b o v q => look q exo_frz, fun b ps q => ⟨#[], by rw [look q exo_tbl]; simp⟩⟩
  refine h dx _ free dne (I.un (t' := tk') un fun b o q => ?_)
  by_cases hb : b = a
  · subst hb
    rw [upd_same] at q
    cases q
    exact exo_ok hx
  rw [upd_ne hb] at q
  by_cases hd : b = dx
  · subst hd
    rw [upd_same] at q
    cases q
    exact exd_ok hn (relO_put (fs := []) ry fun g => True.intro)
  rw [upd_ne hd] at q
  refine (I.hok b o q).stay (fun c v hc z => k c v ?_ z) (fun c hc => look hc exo_own) fun c xs hc => look hc exo_tup
  rcases hc with hc | hc
  · rw [hc]; exact hb
  · exact at_ne e hc exo_own
theorem ostg_old (T : OexG X.K C) (I : L2.Inv X pins σ H s) (e : H a = some (exo a C (some dx))) (ed : H dx = some (exd dx fs)) (hl : fs.length ≤ 900) (hno : PySem.W.findIn X.K (.ref C) f = some none) (ry : RelV y u)
    (h : ∀ s', L2.Inv X pins σ (upd H dx (exd dx ((f, y) :: fs))) s' → Q () s') : wpAny (model X.prog X.w) A (setAttr (.ref a) f u) Q E s := by
  obtain ⟨t1, ho⟩ := exo_at I.hok e
  obtain ⟨mA, hns, rel⟩ := exd_at I.hok ed
  have hw := within_of rel
  obtain ⟨hp, g, d, t, os⟩ := s
  obtain ⟨oD, _, _, hoD, _, _⟩ := hns.count hw
  refine PySem.W.set_plain I.kIn (od := some oD) ⟨ho, rfl, rfl, hoD⟩ T.sa (osg_old T I.kIn ho hno hns hw (by rw [List.length_map]; omega) fun h' tk' k hn => ?_)
  obtain ⟨o', es', ep', eo', r'⟩ := id hn
  exact h _ (I.write (t' := tk') (x := dx) (e := dx) (o := exd dx ((f, y) :: fs)) (by rw [ed]; exact True.intro) (.inl rfl) k ⟨o', eo'⟩ (exd_ok hn (relO_put ry rel)))
end
/-- self.f = e, of one that is being made -/
def tOsg (K : PySem.W.Frag) (f : Str) (to te : TE) : TS := fun D σ H => te σ H fun y H1 => to σ H1 fun x H2 => ∃ a C : Addr, x = .ref a ∧ OexG K C ∧ PySem.W.findIn K (.ref C) f = some none ∧
  ((H2 a = some (exo a C none) ∧ ∀ dx, H2 dx = none → dx ≠ a → D.nx σ (upd (upd H2 dx (exd dx [(f, y)])) a (exo a C (some dx)))) ∨
    ∃ (dx : Addr) (fs : List (Str × V)), H2 a = some (exo a C (some dx)) ∧ H2 dx = some (exd dx fs) ∧ fs.length ≤ 900 ∧ D.nx σ (upd H2 dx (exd dx ((f, y) :: fs))))
/-- C(e, ..), C's own __init__ keeping sp -/
def tMkG (C : Addr) (sp : Sp) (ta : TA) : L2.St → Hp → XK → Prop := fun σ H Q => ta σ H fun vs H1 => vs.length ≤ 1000 ∧ ∀ a, H1 a = none → sp (.ref a :: vs) (upd H1 a (exo a C none))
  (fun v H2 => v = .non ∧ ∃ (d : Addr) (fs : List (Str × V)), H2 a = some (exo a C (some d)) ∧ H2 d = some (exd d fs) ∧ H1 d = none ∧ Q (.ref C) (some d) (upd (del H2 a) d (.xd fs))) (fun _ _ _ => False)
section
variable {X : Cx} {o e : Expr} {es : List Expr} {to te : TE} {ta : TA} {f : Str} {p p' pos : Pos}
theorem ps_osg (ho : PE X o to) (he : PE X e te) (hs : swapsWith e (some (.Attribute o f p')) pos.line X.env = pure false := by rfl) : PS X (.Assign [.Attribute o f p'] e pos) (tOsg X.K f to te) := by
  refine ⟨fun pins s σ H D I h => plainObj_wpAny_Assign_Attribute (thn (he.run pins s σ H _ I h) fun v s1 ⟨y, H1, I1, r1, q1⟩ => thn (ho.run pins s1 σ H1 _ I1 q1) fun u s2 ⟨x, H2, I2, r2, a, C, ex, T, hno, q⟩ => ?_) hs⟩
  subst ex
  cases (show u = Value.ref a from r2)
  rcases q with ⟨ea, q⟩ | ⟨dx, fs, ea, ed, hl, q⟩
  · exact ostg_new T I2 ea hno r1 fun dx s' n ne J => ⟨σ, _, J, q dx n ne⟩
  · exact ostg_old T I2 ea ed hl hno r1 fun s' J => ⟨σ, _, J, q⟩
theorem pmk_oxg {CX : CXT} {x : Str} {C fI : Addr} {k : Nat} {fd : FuncData} {ps : List Str} {sp : Sp} (T : OexG X.K C) (iC : PySem.W.findIn X.K (.ref C) "__init__" = some (some (.ref fI))) (tI : PySem.W.typeIn X.K (.ref fI) = some (.type "function"))
    (F1 : FnOk X.prog X.w X.K X.mg X.base CX k fI fd ps sp) (hr : Room (k + 1) X.A) (hb : Binds X.K fd ps []) (hx : Passes CX X (fun _ _ _ => False)) (hg : Gl X x) (hm : X.mg x = some (.ref C)) (ha : PA X (e :: es) ta)
    (hdb : (x == ("__debug__" : Str)) = false := by decide) (he : starEach (e :: es) X.env = (false, eval e X.env) :: starEach es X.env := by rfl) (hpl : (backTo pos (starEach es X.env)).any (·.1) = false := by rfl) :
    PMk X (.Call (.Name x p) (e :: es) [] pos) (tMkG C sp ta) := by
  intro pins s σ H Q I h
  obtain ⟨B, newId, initId, bmB, nm, q, N, bs, bm, sn, sub, ab, col, dd, k0, k1, k2, k3, k5, F, SF, hC, hbm⟩ := T.cls
  refine wpAny_Call_Name_kw (ld_glob I hg hm ?_ hdb)
  refine PySem.W.callWith_K (h₀ := X.base) I.ok.mod.kin T.kC (thn (ha.run pos pins s σ H _ I h) fun us s1 ⟨vs, H1, I1, r1, hz, q1⟩ => ⟨I1.kIn, ?_⟩) he hpl
  show wpAny _ _ (call (.ref C) us) _ _ _
  obtain ⟨hp, g, dr, tk, os⟩ := s1
  generalize hA : hp.objs.size + 1 = A0
  have sz : hp.objs.size ≤ A0 := by omega
  have hn : H1 A0 = none := I1.hok.fresh sz
  have hq := q1 A0 hn
  generalize hG : (hp.push (PySem.W.kdv_tup us)).push (PySem.HandSPX.excO C hp.objs.size) = G
  have kk : ∀ b o, hp.get? b = some o → G.get? b = some o := fun b o e => by
    rw [← hG]; exact Heap.get?_push_of_some _ (Heap.get?_push_of_some _ e)
  have hget : G.get? A0 = some (PySem.HandSPX.excO C hp.objs.size) := by
    rw [← hG, ← hA]; heap_get
  have I2 : L2.Inv X pins σ (upd H1 A0 (exo A0 C none)) ⟨G, g, dr, tk, os⟩ := I1.laid (t' := tk) (a := A0) (o := exo A0 C none) (h' := G) kk sz (exo_ok hget)
  have r2 : Vals (V.ref A0 :: vs) (Value.ref A0 :: us) := .cons rfl r1
  have hl : (Value.ref A0 :: us).length = ps.length := by
    rw [← r2.length]
    exact F1.len _ _ _ _ hq
  have hus : us.length ≤ sizeLine := by
    rw [← Paired.length r1, sizeLine_eq]
    omega
  have bd := hb ⟨G, g, dr, tk, os⟩ (Value.ref A0 :: us) I2.kIn (by rw [List.append_nil]; exact hl)
  rw [List.append_nil] at bd
  refine wpAny_call (PySem.HandSPX.call_own F (fun Y => PySem.W.excTail_contains Y bm hbm) (I1.kIn _ _ hC) (PySem.W.looks_findIn I1.kIn iC) (fun self => PySem.W.bind_fn I1.kIn self tI) hus ?_)
  rw [hA, hG]
  refine codeAny_mono (F1.run _ X.stack _ _ ⟨Value.ref A0 :: us, []⟩ (Value.ref A0 :: us) _ _ (fun _ _ _ => False) (hr.make C us []) (I2.env0.make C us []) bd r2 hq) fun r s' z => ?_
  cases r with
  | error er => exact hx pins σ _ _ er s' I2 z
  | ok fl =>
    cases fl with
    | ret u =>
      obtain ⟨v, H2, os2, bare2, un2, hok2, rv, ev, d, fs, ea, ed, hd1, q2⟩ := z
      subst ev
      obtain ⟨h2, g2, d2, t2, os'⟩ := s'
      exact ⟨rv, mk_end (raises_own T.exC T.tyC) I1 sz kk un2 hok2 os2 bare2 ea ed hd1 q2⟩
    | next => exact z.elim
    | brk => exact z.elim
    | cont => exact z.elim
end
end TT

set_option Elab.async false
set_option linter.all false
set_option maxRecDepth 100000
namespace TT
open PySem PySem.Spec PyProof.Rows L2
/-! ### enumerate(tuple) -/
set_option maxHeartbeats 1000000 in
theorem meets_enum1 {v : Value} {o : Obj} {H : Heap → Prop} (B : Begins v o H) :
    Meets (Builtin.«enumerate.__new__» ⟨[.type "enumerate", v], []⟩) (fun _ R s => H s.heap ∧
      R (.ok (.ret (.ref (s.heap.push o).objs.size))) { s with heap := (s.heap.push o).push { cls := .type "enumerate", data := .fields #[.none, .bool false, .ref s.heap.objs.size, rawInt 0, .none, .none] } }) := by
  refine .of_wp fun prog w A R s ⟨h1, h⟩ => ?_
  obtain ⟨hp, g, d, tk, os⟩ := s
  have sb := sub_enumerate
  have st : ∀ {A' : Around} {E : Value → Shared → Prop} {Q : Value → Shared → Prop}, Q (.ref hp.objs.size) ⟨hp.push o, g, d, tk, os⟩ → wpAny (model prog w) A' (pyIter v) Q E ⟨hp, g, d, tk, os⟩ := fun q => B.iter prog w _ _ _ _ h1 q
  wp_walk using st
  refine wpAny_stack_any fun z => wpAny_pure (?_)
  split
  · rename_i c _ _ _ _ _
    cases (c == Value.type "enumerate") <;> (wp_walk using st; exact ⟨_, rfl, h⟩)
  · wp_walk using st
    exact ⟨_, rfl, h⟩
section
variable {prog : Program} {w : World} {A : Around} {E : Value → Shared → Prop} {s : Shared}
theorem call_enum1 {v : Value} {o : Obj} {H : Heap → Prop} {Q : Value → Shared → Prop} (B : Begins v o H) (h1 : H s.heap)
    (h : ∀ h', IsEnum h' (s.heap.objs.size + 1) s.heap.objs.size 0 .none → h'.get? s.heap.objs.size = some o → (∀ b o, s.heap.get? b = some o → h'.get? b = some o) → Q (.ref (s.heap.objs.size + 1)) { s with heap := h' }) :
    wpAny (model prog w) A (call (.type "enumerate") [v]) Q E s := by
  refine callType_new F.called_enumerate (by decide) (F.typeCall_enumerate_1 _) (F.newCall_enumerate_1 _) (fun ob => F.args_object_init_2 ob _) F.entry_enumerate_new (meets_enum1 B) ⟨h1, ?_⟩
  have hz : (s.heap.push o).objs.size = s.heap.objs.size + 1 := Heap.size_push ..
  show _ ∧ _
  rw [hz]
  have he : IsEnum ((s.heap.push o).push { cls := .type "enumerate", data := .fields #[.none, .bool false, .ref s.heap.objs.size, rawInt 0, .none, .none] }) (s.heap.objs.size + 1) s.heap.objs.size 0 .none := by
    have q := Heap.get?_push_size (s.heap.push o) (o := { cls := .type "enumerate", data := .fields #[.none, .bool false, .ref s.heap.objs.size, rawInt 0, .none, .none] }) rfl
    rw [hz] at q
    exact q
  exact ⟨⟨_, he, rfl⟩, h _ he (Heap.get?_push_of_some _ (Heap.get?_push_size _ B.free)) fun b o x => Heap.get?_push_of_some _ (Heap.get?_push_of_some _ x)⟩
end
def IteT (K : PySem.W.Frag) (a : Addr) : It :=
  ⟨fun i H => ∃ (xs : List V) (x : V), SqT K H a xs ∧ xs[i]? = some x, fun i H v H' => ∃ T x, v = .ref T ∧ H T = none ∧ H' = upd H T (.tup [.int (i : Nat), x]) ∧ ∀ xs, SqT K H a xs → xs[i]? = some x, fun i H => ∃ xs : List V, SqT K H a xs ∧ xs.length = i⟩
theorem turn_enumT {P : Program} {w : World} {K : PySem.W.Frag} {elts : List Expr} {kk : Nat} {tpos : Pos} (a e it : Addr) :
    Turn P w K (.Tuple elts kk tpos) (IteT K a) [e, it] e (fun i h => (∃ old, IsEnum h e it ((i : Nat) : Int) old) ∧ h.IsTupleIter it a i ∧ e ≠ it) where
  mem := by simp
  obj := fun i h st b hb => by
    obtain ⟨⟨old, he⟩, ⟨o, ho, hc, hd⟩, _⟩ := st
    have q : b = e ∨ b = it := by simpa using hb
    rcases q with rfl | rfl
    · exact ⟨_, he, fun v q => nomatch q⟩
    · exact ⟨o, ho, fun v q => by rw [hd] at q; cases q⟩
  keep := fun i h h' st k => let ⟨⟨old, he⟩, hi, hne⟩ := st; ⟨⟨old, k e (by simp) _ he⟩, hi.at fun o q => k it (by simp) o q, hne⟩
  item := by
    intro X hP hw hK hc i pins s σ H E I hf st hg
    subst hP hw hK
    obtain ⟨⟨old, he⟩, hit, hne⟩ := st
    obtain ⟨xs, x, hq, hx⟩ := hg
    obtain ⟨its, rv, p, hz⟩ := I.tuple hq
    obtain ⟨u, hu, ru⟩ := rv.get hx
    have p' : s.heap.IsTuple a its.toArray := p
    obtain ⟨oa, ea, ca, na, da⟩ := id p
    obtain ⟨oi, ei, ci, di⟩ := id hit
    have nai : a ≠ it := fun z => by
      rw [z, ei] at ea
      cases ea
      exact absurd (Value.type.inj (ci.symm.trans ca)) (by decide)
    have nea : e ≠ a := fun z => by
      have q := he
      unfold IsEnum at q
      rw [z, ea] at q
      have q2 := Option.some.inj q
      rw [q2] at ca
      exact absurd (Value.type.inj ca) (by decide)
    have hel : e < s.heap.objs.size := Heap.lt_size he
    have hil : it < s.heap.objs.size := Heap.lt_size ei
    have li : i < its.toArray.size := by
      have := (List.getElem?_eq_some_iff.mp hu).1
      simpa using this
    refine wpAny_pyNext_enum_itemD (Draws.tuple (A := X.A.in1) (I.ok.hd hc) it a nai its.toArray) he ⟨hit, p'⟩ li hne (by simp [hne, nea]) fun x1 h' tk hP ho hst hT hsz hk => ?_
    have hxu : x1 = u := by
      have q : its.toArray[i]? = some u := by simpa using hu
      rw [q] at hP
      exact (Option.some.inj hP).symm
    subst hxu
    refine ⟨_, rfl, wpAny_letOwnedTupleGo_enum (s := { s with heap := h', toks := tk + 1 }) ho fun h'' he' sb => ?_⟩
    have hT2 : h''.get? s.heap.objs.size = some { cls := .type "tuple", data := .seq #[.int i tk, x1] } := (sb.2 _ (Nat.ne_of_gt hel)).trans hT
    have I1 : L2.Inv X pins σ (upd H s.heap.objs.size (.tup [.int (i : Nat), x])) { s with heap := h'', toks := tk + 1 } :=
      I.turnedNew (ch := [e, it]) (fun b ob hb q => (sb.2 b (fun z => hb (by simp [z]))).trans (hk b ob (fun z => hb (by simp [z])) (fun z => hb (by simp [z])) q)) hf (Nat.le_refl _)
        ⟨by show 2 ≤ sizeLine; decide, [.int i tk, x1], .cons ⟨_, rfl⟩ (.cons ru .nil), ⟨_, hT2, rfl, _, rfl⟩⟩
    refine ⟨.ref s.heap.objs.size, _, I1, rfl, ⟨_, x, rfl, I.hok.fresh (Nat.le_refl _), rfl, fun ys hy => by rw [I.tuple_inj hy hq]; exact hx⟩, ⟨⟨x1, ?_⟩, hst.1.at fun o q => (sb.2 it (Ne.symm hne)).trans q, hne⟩, fun b hb => ?_⟩
    · rw [show ((i + 1 : Nat) : Int) = (i : Int) + 1 by omega]; exact he'
    · have q : b = e ∨ b = it := by simpa using hb
      have hb' : b < s.heap.objs.size := by
        rcases q with z | z
        · rw [z]; exact hel
        · rw [z]; exact hil
      rw [upd_ne (Nat.ne_of_lt hb')]
      exact (hf b hb).1
  done := by
    intro X hP hw hK hc i pins s σ H E I hf st hg
    subst hP hw hK
    obtain ⟨⟨old, he⟩, hit, hne⟩ := st
    obtain ⟨xs, hq, hx⟩ := hg
    obtain ⟨its, rv, p, hz⟩ := I.tuple hq
    obtain ⟨oa, ea, ca, na, da⟩ := id p
    obtain ⟨oi, ei, ci, di⟩ := id hit
    have nai : a ≠ it := fun z => by
      rw [z, ei] at ea
      cases ea
      exact absurd (Value.type.inj (ci.symm.trans ca)) (by decide)
    obtain ⟨f0, f1, f2, f3, f4, f5⟩ := hf it (by simp)
    have hl := rv.length
    have e1 : its.toArray.size = i := by simp; omega
    exact wpAny_pyNext_enum_endD (Draws.tuple (A := X.A.in1) (I.ok.hd hc) it a nai its.toArray) he (by rw [e1]; exact ⟨hit, p⟩) fun h' eb => ⟨rfl, I.turned (t' := s.toks) (fun b o hb q => eb b o hb q) f0 f1 f3 f4 f5⟩
  self := fun A i s Q E st h => let ⟨⟨_, he⟩, _⟩ := st; wpAny_pyIter_enum he h
def iEnumT (K : PySem.W.Frag) (ta : TA) : TI := fun σ H R => ta σ H fun vs H1 => ∃ a xs, vs = [.ref a] ∧ SqT K H1 a xs ∧ R (IteT K a) H1
theorem pi_enumT {X : Cx} {e : Expr} {ta : TA} {p pos tpos : Pos} {elts : List Expr} {kk : Nat} (hg : Gl X "enumerate") (hm : X.mg "enumerate" = none) (ha : PA X [e] ta) (hs : starEach [e] X.env = [(false, eval e X.env)] := by rfl) :
    PI X (.Tuple elts kk tpos) (.Call (.Name "enumerate" p) [e] [] pos) (iEnumT X.K ta) := by
  refine ⟨fun pins s σ H R I h => Call_ (ld_blt I hg hm boot_enumerate (PyProof.Rows.callWith_type1 (thn (ha.run pos pins s σ H _ I h) fun us s1 ⟨vs, H1, I1, r1, a, xs, ex, hq, q⟩ => ?_) hs rfl))⟩
  subst ex
  cases r1 with
  | cons r rr =>
    cases rr
    cases r
    obtain ⟨its, rv, p', hz⟩ := I1.tuple hq
    refine call_enum1 (begins_tuple a its.toArray) (show s1.heap.IsTuple a its.toArray from p') fun h' he hit hk => wpAny_pyIter_enum he ?_
    have I2 : L2.Inv X pins σ H1 { s1 with heap := h' } := I1.kept (t' := s1.toks) hk
    refine ⟨s1.heap.objs.size + 1, [s1.heap.objs.size + 1, s1.heap.objs.size], _, _, H1, rfl, I2, turn_enumT a (s1.heap.objs.size + 1) s1.heap.objs.size, ⟨⟨.none, he⟩, ⟨_, hit, rfl, rfl⟩, Nat.succ_ne_self _⟩, fun b hb => ?_, q⟩
    have q2 : b = s1.heap.objs.size + 1 ∨ b = s1.heap.objs.size := by simpa using hb
    have hle : s1.heap.objs.size ≤ b := by
      rcases q2 with z | z
      · rw [z]; exact Nat.le_add_right _ _
      · rw [z]; exact Nat.le_refl _
    exact I1.fpOk hle (I1.hok.fresh hle)
theorem walk_enumT {K : PySem.W.Frag} {a : Addr} {xs : List V} : Walk (IteT K a) xs.length (fun H => SqT K H a xs) (YPair (fun i => some (.int (i : Nat))) (fun i => xs[i]?)) := by
  refine ⟨fun i _ hi q => ⟨xs, xs[i], q, by simp [hi]⟩, fun _ q => ⟨xs, q, rfl⟩, fun i H v H' _ q y => ?_⟩
  obtain ⟨T, x, h1, h2, h3, h4⟩ := y
  exact ⟨T, .int (i : Nat), x, h1, h2, h3, rfl, h4 xs q⟩
end TT

set_option Elab.async false
set_option linter.all false
set_option maxRecDepth 100000
namespace TT
open PySem PySem.Spec PyProof.Rows L2
/-! ### NoSuch: its __init__, raised -/
def kWhat : Str := "what"
def kName : Str := "name"
def spInit (K : PySem.W.Frag) (C : Addr) : Sp := fun vs H Q _ => ∃ (a : Addr) (x y : V), vs = [.ref a, x, y] ∧ H a = some (exo a C none) ∧ ∀ dx, H dx = none → dx ≠ a → Q .non (upd (upd (upd H dx (exd dx [(kWhat, x)])) a (exo a C (some dx))) dx (exd dx [(kName, y), (kWhat, x)]))
structure NoS (P : Program) (w : World) (K : PySem.W.Frag) (mg : Str → Option Value) (base : Heap) (C : Addr) : Prop where
  oex : OexG K C
  g : mg "NoSuch" = some (.ref C)
  init : ∃ fI fd, PySem.W.findIn K (.ref C) "__init__" = some (some (.ref fI)) ∧ PySem.W.typeIn K (.ref fI) = some (.type "function") ∧ Binds K fd ["self", "what", "name"] [] ∧ FnOk P w K mg base CX0 1 fI fd ["self", "what", "name"] (spInit K C)
section
variable {X : Cx} {C : Addr} {k : Nat} {W : WX} {e : Expr} {es : List Expr} {ta : TA} {p pos pos2 : Pos}
/-- raise NoSuch(.., ..) -/
theorem ps_nosuch (N : NoS X.prog X.w X.K X.mg X.base C) (hc : X.calm = true) (hr : Room k X.A) (tk : Takes X W) (ha : PA X (e :: es) ta) (hk : 2 ≤ k := by decide) (hg : Gl X "NoSuch" := by rfl)
    (he : starEach (e :: es) X.env = (false, eval e X.env) :: starEach es X.env := by rfl) (hpl : (backTo pos (starEach es X.env)).any (·.1) = false := by rfl) :
    PS X (.Raise (some (.Call (.Name "NoSuch" p) (e :: es) [] pos)) none pos2) (fun _ σ H => tMkG C (spInit X.K C) ta σ H fun cls d H' => W cls d σ H') := by
  obtain ⟨fI, fd, iC, tI, hb, F1⟩ := N.init
  exact ps_raise hc tk (pmk_oxg N.oex iC tI F1 (hr.mono hk) hb pass0 hg N.g ha (by decide) he hpl)
end
theorem ns_raise {K : PySem.W.Frag} {C : Addr} {x y : V} {H1 : Hp} {Q : XK} (h : ∀ d, H1 d = none → Q (.ref C) (some d) (upd H1 d (.xd [(kName, y), (kWhat, x)]))) :
    ([x, y] : List V).length ≤ 1000 ∧ ∀ a, H1 a = none → spInit K C (.ref a :: [x, y]) (upd H1 a (exo a C none))
      (fun v H2 => v = .non ∧ ∃ (d : Addr) (fs : List (Str × V)), H2 a = some (exo a C (some d)) ∧ H2 d = some (exd d fs) ∧ H1 d = none ∧ Q (.ref C) (some d) (upd (del H2 a) d (.xd fs))) (fun _ _ _ => False) := by
  refine ⟨(by show 2 ≤ 1000; decide), fun a na => ⟨a, x, y, rfl, upd_same, fun dx n ne => ⟨rfl, dx, _, ?_, upd_same, ?_, ?_⟩⟩⟩
  · rw [upd_ne (Ne.symm ne), upd_same]
  · rw [upd_ne ne] at n; exact n
  · have n' : H1 dx = none := by rw [upd_ne ne] at n; exact n
    have z := h dx n'
    have e : upd (del (upd (upd (upd (upd H1 a (exo a C none)) dx (exd dx [(kWhat, x)])) a (exo a C (some dx))) dx (exd dx [(kName, y), (kWhat, x)])) a) dx (.xd [(kName, y), (kWhat, x)]) = upd H1 dx (.xd [(kName, y), (kWhat, x)]) := by
      funext b
      by_cases h1 : b = dx
      · subst h1; rw [upd_same, upd_same]
      · rw [upd_ne h1, upd_ne h1]
        by_cases h2 : b = a
        · subst h2; rw [del_same, na]
        · rw [del_ne h2, upd_ne h1, upd_ne h2, upd_ne h1, upd_ne h2]
    rw [e]
    exact z
/-- an own def that may raise -/
def DefX (P : Program) (w : World) (K : PySem.W.Frag) (mg : Str → Option Value) (base : Heap) (k : Nat) (x : Str) (ps : List Str) (sp : Sp) : Prop :=
  ∃ f fd, mg x = some (.ref f) ∧ PySem.W.keepIn K (.ref f) = true ∧ Binds K fd ps [] ∧ FnOk P w K mg base (L2.CX P w) k f fd ps sp
section
variable {X : Cx} {k j : Nat} {x : Str} {ps : List Str} {sp : Sp} {p pos : Pos} {e : Expr} {es : List Expr} {t : TA} {W : WX}
theorem pe_ownX (D : DefX X.prog X.w X.K X.mg X.base k x ps sp) (hr : Room j X.A) (tk : Takes X W) (ha : PA X (e :: es) t) (hkj : k ≤ j := by decide) (hg : Gl X x := by rfl) (hdb : (x == ("__debug__" : Str)) = false := by decide)
    (he : starEach (e :: es) X.env = (false, eval e X.env) :: starEach es X.env := by rfl) (hpl : (backTo pos (starEach es X.env)).any (·.1) = false := by rfl) :
    PE X (.Call (.Name x p) (e :: es) [] pos) (tCallS sp (WE W) t) := by
  obtain ⟨f, fd, hm, hk, hb, F⟩ := D
  exact pe_callS F (hr.mono hkj) hg hm hk hb (fun σ => passAt tk σ) ha hdb he hpl
end
section
variable {P : Program} {w : World} {K : PySem.W.Frag} {mg : Str → Option Value} {base : Heap}
/-- the columns of a table; or NoSuch("table", its name) -/
def spColsX (K : PySem.W.Frag) (C : Addr) : Sp := fun vs H Q E => ∃ (tp : Addr) (ts : List Tab) (t : Str), vs = [.ref tp, .str t] ∧ Tabs K H tp ts ∧
  (t ∈ tns ts → ∀ (pc : Addr) (ys : List V), SqT K H pc ys → DpAll K H ys ((colsOf ts t).map colD) → Q (.ref pc) H) ∧
  (t ∉ tns ts → ∀ d, H d = none → E (.ref C) (some d) (upd H d (.xd [(kName, .str t), (kWhat, .str "table")])))
abbrev s_columns_of : Stmt := topS 7
abbrev N_columns_of : List Str := ["tables", "table", "name", "columns"]
theorem sc_columns_of : FnScope N_columns_of ["tables", "table"] (defScope s_columns_of) := ⟨rfl, rfl, rfl, by decide +kernel, rfl, by decide +kernel, by decide +kernel⟩

theorem ok_columns_of {C : Addr} {f : Addr} {fd : FuncData} (N : NoS P w K mg base C) (F : Fun K "_columns_of" "_columns_of" s_columns_of f fd) : FnOk P w K mg base (L2.CX P w) 3 f fd ["tables", "table"] (spColsX K C) := by
  refine F.okX sc_columns_of (fun vs H Q E h => ?_) (fun cdv A outer sh H vs Q E hr h => ?_)
  · obtain ⟨tp, ts, t, rfl, _⟩ := h
    rfl
  obtain ⟨tp, ts, t, rfl, hT, yes, no⟩ := h
  have nd := sc_columns_of.nd
  refine ⟨_, (pss_cons (ps_for (passes_of rfl) rfl (pi_tup (pv 0)) (pg_tup rfl (pgs_cons (pg_name (i := 2) nd rfl (Or.inl rfl)) (pgs_cons (pg_name (i := 3) nd rfl (Or.inl rfl)) pgs_nil)))
        (pss_one (ps_if (pt_cmpR op_eq (pv 2) (pv 1) (nomark _))
          (pss_one (ps_ret (pv 3)))
          pss_nil)))
      (pss_one (ps_nosuch N rfl hr (takes_of rfl rfl rfl rfl) (pa_cons pe_str (pa_cons (pv 1) pa_nil))))), ?_⟩
  obtain ⟨xs, hS, hA, l⟩ := hT.parts
  refine ⟨.ref tp, rfl, tp, rfl, ⟨_, hS⟩, ?_⟩
  refine for_tup (K := K) (a := tp) (xs := xs) (fun i σ H' => (∃ y2 y3, σ = [some (.ref tp), some (.str t), y2, y3]) ∧ H' = H ∧ t ∉ (tns ts).take i) ⟨⟨none, none, rfl⟩, rfl, by simp⟩ (fun i σ H' _ hP => by rw [hP.2.1]; exact hS) (fun i x σ H' hx hP => ?_) (fun σ H' hP => ?_)
  · obtain ⟨⟨y2, y3, rfl⟩, rfl, hn⟩ := hP
    obtain ⟨tb, qq, pc, ys, htb, rfl, h1, h2, h3⟩ := tab_at hA hx
    refine ⟨qq, _, rfl, h1, rfl, .str tb.1, _, rfl, .ref pc, _, rfl, rfl, ?_⟩
    refine ⟨.str tb.1, rfl, .str t, rfl, rfl, _, rfl, ite2 (fun e => ?_) (fun e => ?_)⟩
    · obtain rfl : tb.1 = t := V.str.inj (of_decide_eq_true e)
      refine ⟨.ref pc, rfl, yes (List.mem_map.mpr ⟨tb, List.mem_of_getElem? htb, rfl⟩) pc ys h2 ?_⟩
      rw [colsOf_mem hT.ok.nd (List.mem_of_getElem? htb)]
      exact h3
    · refine ⟨⟨_, _, rfl⟩, rfl, fun z => ?_⟩
      rw [List.take_add_one, List.getElem?_map, htb] at z
      rcases List.mem_append.mp z with z | z
      · exact hn z
      · have : t = tb.1 := by simpa using z
        exact e (decide_eq_true (by rw [this]))
  · obtain ⟨⟨y2, y3, rfl⟩, rfl, hn⟩ := hP
    rw [l, ← tns_len, List.take_length] at hn
    exact ⟨.str t, rfl, ns_raise fun d hd => no hn d hd⟩
/-- a list of the names of a table's columns; or NoSuch -/
def spNamesX (K : PySem.W.Frag) (C : Addr) : Sp := fun vs H Q E => ∃ (tp : Addr) (ts : List Tab) (t : Str), vs = [.ref tp, .str t] ∧ Tabs K H tp ts ∧
  (t ∈ tns ts → ∀ (D : Addr) (H' : Hp), Same H H' → H' D = some (.lst ((cns ts t).map V.str)) → Q (.ref D) H') ∧
  (t ∉ tns ts → ∀ d, H d = none → E (.ref C) (some d) (upd H d (.xd [(kName, .str t), (kWhat, .str "table")])))
abbrev s_column_names : Stmt := topS 6
abbrev N_column_names : List Str := ["tables", "table", "column", "_"]
theorem sc_column_names : FnScope N_column_names ["tables", "table"] (defScope s_column_names) := ⟨rfl, rfl, rfl, by decide +kernel, rfl, by decide +kernel, by decide +kernel⟩

theorem ok_column_names {C : Addr} {f : Addr} {fd : FuncData} (F : Fun K "column_names" "column_names" s_column_names f fd) (D_columns_of : DefX P w K mg base 3 "_columns_of" ["tables", "table"] (spColsX K C)) : FnOk P w K mg base (L2.CX P w) 4 f fd ["tables", "table"] (spNamesX K C) := by
  refine F.okX sc_column_names (fun vs H Q E h => ?_) (fun cdv A outer sh H vs Q E hr h => ?_)
  · obtain ⟨tp, ts, t, rfl, _⟩ := h
    rfl
  obtain ⟨tp, ts, t, rfl, hT, yes, no⟩ := h
  have nd := sc_column_names.nd
  refine ⟨_, (pss_one (ps_ret (pe_lc (own := [("column", 2), ("_", 3)]) (g := (gTup _ 2 (gCons (gName 2) (gCons (gName 3) gNil)))) (tt := tYes) rfl nd (pi_tup (pe_ownX D_columns_of hr (takes_of rfl rfl rfl rfl) (pa_cons (pv 0) (pa_cons (pv 1) pa_nil)))) (blkOk_by (N := N_column_names) (sc := defScope s_column_names) (by decide +kernel)) (fun _ _ _ _ _ => (pg_tup rfl (pgs_cons (pg_name (i := 2) nd rfl (Or.inl rfl)) (pgs_cons (pg_name (i := 3) nd rfl (Or.inl rfl)) pgs_nil)))) (fun _ _ _ _ _ => pts_nil) (fun _ _ _ _ _ => (pv 2))))), ?_⟩
  refine ⟨.ref tp, rfl, .str t, rfl, tp, ts, t, rfl, hT, fun ht pc ys hS hA => ⟨pc, rfl, ⟨_, hS⟩, fun D nD => ?_⟩, fun ht d hd => no ht d hd⟩
  have l : ys.length = (cns ts t).length := by rw [dpAll_len hA, List.length_map, List.length_map]
  have l8 : (cns ts t).length ≤ 5 := by
    obtain ⟨x, hx, _, e⟩ := tab_of hT.ok.nd ht
    unfold cns
    rw [e, List.length_map]
    exact (hT.ok.cs x hx).1.top
  refine lc_it walk_tup (PvM H D fun i => .str ((cns ts t).getD i Str.empty)) (pvm_start ..) (fun i H2 _ hP => sameT (pvm_same hP nD) hS) (fun i x H2 H3 hi hP hY => ?_) (fun H2 hP => ?_)
  · obtain ⟨rfl, hx⟩ := hY
    have sm := pvm_same hP nD
    obtain ⟨co, qc, yc, hco, rfl, hqc⟩ := col_at hA hx
    refine ⟨qc, _, rfl, sameT sm hqc, rfl, .str co.1, _, rfl, yc, _, rfl, rfl, ?_⟩
    refine ⟨rfl, ?_⟩
    unfold tYes
    dsimp only
    refine iteT ?_
    refine ⟨.str co.1, rfl, pvm_step hP (Same.refl _) ?_ (by omega)⟩
    show V.str co.1 = .str ((cns ts t).getD i Str.empty)
    rw [getD_of (show (cns ts t)[i]? = some co.1 by rw [List.getElem?_map, hco]; rfl)]
  · refine yes ht D H2 (pvm_same hP nD) ?_
    rw [hP.1, l]
    have e := range_map (fun z => V.str z) Str.empty (cns ts t)
    rw [e]
end
end TT

set_option Elab.async false
set_option linter.all false
set_option maxRecDepth 100000
namespace TT
open PySem PySem.Spec PyProof.Rows L2
section
variable {P : Program} {w : World} {K : PySem.W.Frag} {mg : Str → Option Value} {base : Heap}
abbrev s_init : Stmt := match topS 2 with
  | .ClassDef (body := b) .. => b.getD 0 (.Pass ⟨0, 0, 0, 0⟩)
  | _ => .Pass ⟨0, 0, 0, 0⟩
theorem sc_init : FnScope ["self", "what", "name"] ["self", "what", "name"] (defScope s_init) := ⟨rfl, rfl, rfl, by decide +kernel, rfl, by decide +kernel, by decide +kernel⟩
theorem ok_init {C : Addr} {f : Addr} {fd : FuncData} (F : Fun K "__init__" "NoSuch.__init__" s_init f fd) (T : OexG K C) (h1 : PySem.W.findIn K (.ref C) "what" = some none) (h2 : PySem.W.findIn K (.ref C) "name" = some none) : FnOk P w K mg base CX0 1 f fd ["self", "what", "name"] (spInit K C) := by
  refine F.ok sc_init (fun vs H Q E h => ?_) (fun cdv A outer sh H vs Q E hr h => ?_)
  · obtain ⟨a, x, y, rfl, _⟩ := h
    rfl
  obtain ⟨a, x, y, rfl, ea, q⟩ := h
  refine ⟨_, pss_cons (ps_osg (pv 0) (pv 1)) (pss_one (ps_osg (pv 0) (pv 2))), ?_⟩
  refine ⟨x, rfl, .ref a, rfl, a, C, rfl, T, h1, .inl ⟨ea, fun dx n ne => ?_⟩⟩
  refine ⟨y, rfl, .ref a, rfl, a, C, rfl, T, h2, .inr ⟨dx, _, upd_same, ?_, (by show 1 ≤ 900; decide), q dx n ne⟩⟩
  rw [upd_ne ne, upd_same]
  rfl
/-- the place of a column; or NoSuch -/
def spPlaceX (K : PySem.W.Frag) (C : Addr) : Sp := fun vs H Q E => ∃ (tp : Addr) (ts : List Tab) (t c : Str), vs = [.ref tp, .str t, .str c] ∧ Tabs K H tp ts ∧
  (t ∈ tns ts → ∀ (j : Nat) (H' : Hp), Same H H' → (cns ts t)[j]? = some c → Q (.int j) H') ∧
  (t ∈ tns ts → c ∉ cns ts t → ∀ d H', Same H H' → H' d = none → E (.ref C) (some d) (upd H' d (.xd [(kName, .str c), (kWhat, .str "column")]))) ∧
  (t ∉ tns ts → ∀ d, H d = none → E (.ref C) (some d) (upd H d (.xd [(kName, .str t), (kWhat, .str "table")])))
theorem eqV_str (a b : Str) : eqV (.str a) (.str b) = decide (a = b) := by
  show (a == b) = _
  by_cases h : a = b
  · rw [h, decide_eq_true rfl]; simp
  · rw [decide_eq_false h]; simp [h]
abbrev s_column_place : Stmt := topS 4
abbrev N_column_place : List Str := ["tables", "table", "column", "names"]
theorem sc_column_place : FnScope N_column_place ["tables", "table", "column"] (defScope s_column_place) := ⟨rfl, rfl, rfl, by decide +kernel, rfl, by decide +kernel, by decide +kernel⟩

theorem ok_column_place {C : Addr} {f : Addr} {fd : FuncData} (N : NoS P w K mg base C) (F : Fun K "column_place" "column_place" s_column_place f fd) (D_column_names : DefX P w K mg base 4 "column_names" ["tables", "table"] (spNamesX K C)) : FnOk P w K mg base (L2.CX P w) 5 f fd ["tables", "table", "column"] (spPlaceX K C) := by
  refine F.okX sc_column_place (fun vs H Q E h => ?_) (fun cdv A outer sh H vs Q E hr h => ?_)
  · obtain ⟨tp, ts, t, c, rfl, _⟩ := h
    rfl
  obtain ⟨tp, ts, t, c, rfl, hT, yes, noc, not⟩ := h
  have nd := sc_column_place.nd
  refine ⟨_, (pss_cons (ps_set (i := 3) nd rfl (Or.inl rfl) (pe_ownX D_column_names hr (takes_of rfl rfl rfl rfl) (pa_cons (pv 0) (pa_cons (pv 1) pa_nil))))
      (pss_cons (ps_if (pt_cmpR op_notIn_seq (pv 2) (pv 3) (by rfl))
        (pss_one (ps_nosuch N rfl hr (takes_of rfl rfl rfl rfl) (pa_cons pe_str (pa_cons (pv 2) pa_nil))))
        pss_nil)
      (pss_one (ps_ret (pe_bm PySem.F.plainAttrs_list PySem.F.slot_list_index PySem.F.type_list_index mt_index (pv 3) (pa_cons (pv 2) pa_nil)))))), ?_⟩
  refine ⟨.ref tp, rfl, .str t, rfl, tp, ts, t, rfl, hT, fun ht D H1 s1 eD => ?_, fun ht d hd => not ht d hd⟩
  refine ⟨.str c, rfl, .ref D, rfl, D, _, rfl, .inl (.inl (.inl eD)), rfl, flat_strs _, _, rfl, ?_⟩
  rw [if_pos rfl, inV_strs]
  cases hin : decide (c ∈ cns ts t) with
  | false => exact iteT ⟨.str c, rfl, ns_raise fun d hd => noc ht (of_decide_eq_false hin) d H1 s1 hd⟩
  | true =>
    refine iteF ?_
    have hm := of_decide_eq_true hin
    have hj : (cns ts t).idxOf c < (cns ts t).length := List.idxOf_lt_length_of_mem hm
    have hg : (cns ts t)[(cns ts t).idxOf c]? = some c := by rw [List.getElem?_eq_getElem hj, List.getElem_idxOf]
    refine ⟨.ref D, rfl, .inl ⟨rfl, _, .inl (.inl eD)⟩, .str c, rfl, D, _, .str c, (cns ts t).idxOf c, .str c, rfl, rfl, .inl (.inl eD), rfl, flat_strs _, by rw [List.getElem?_map, hg]; rfl, by rw [eqV_str]; exact decide_eq_true rfl, fun m z' hm' hz => ?_, yes ht _ H1 s1 hg⟩
    rw [List.getElem?_map] at hz
    obtain ⟨y, hy, rfl⟩ := Option.map_eq_some_iff.mp hz
    rw [eqV_str]
    refine decide_eq_false fun e => ?_
    rw [e] at hy
    have := (List.getElem?_inj (i := m) (by omega) (cns_ok hT.ok ht).2.2.2).mp (hy.trans hg.symm)
    omega
/-- the fallback of a column; or NoSuch -/
def spFallX (K : PySem.W.Frag) (C : Addr) : Sp := fun vs H Q E => ∃ (tp : Addr) (ts : List Tab) (t c : Str), vs = [.ref tp, .str t, .str c] ∧ Tabs K H tp ts ∧
  (t ∈ tns ts → ∀ (j : Nat) (co : Col) (H' : Hp), Same H H' → (colsOf ts t)[j]? = some co → co.1 = c → Q (wV co.2) H') ∧
  (t ∈ tns ts → c ∉ cns ts t → ∀ d H', Same H H' → H' d = none → E (.ref C) (some d) (upd H' d (.xd [(kName, .str c), (kWhat, .str "column")]))) ∧
  (t ∉ tns ts → ∀ d, H d = none → E (.ref C) (some d) (upd H d (.xd [(kName, .str t), (kWhat, .str "table")])))
abbrev s_fallback_of : Stmt := topS 5
abbrev N_fallback_of : List Str := ["tables", "table", "column", "place"]
theorem sc_fallback_of : FnScope N_fallback_of ["tables", "table", "column"] (defScope s_fallback_of) := ⟨rfl, rfl, rfl, by decide +kernel, rfl, by decide +kernel, by decide +kernel⟩

theorem ok_fallback_of {C : Addr} {f : Addr} {fd : FuncData} (F : Fun K "fallback_of" "fallback_of" s_fallback_of f fd) (D_columns_of : DefX P w K mg base 3 "_columns_of" ["tables", "table"] (spColsX K C)) (D_column_place : DefX P w K mg base 5 "column_place" ["tables", "table", "column"] (spPlaceX K C)) :
    FnOk P w K mg base (L2.CX P w) 6 f fd ["tables", "table", "column"] (spFallX K C) := by
  refine F.okX sc_fallback_of (fun vs H Q E h => ?_) (fun cdv A outer sh H vs Q E hr h => ?_)
  · obtain ⟨tp, ts, t, c, rfl, _⟩ := h
    rfl
  obtain ⟨tp, ts, t, c, rfl, hT, yes, noc, not⟩ := h
  have nd := sc_fallback_of.nd
  refine ⟨_, (pss_cons (ps_set (i := 3) nd rfl (Or.inl rfl) (pe_ownX D_column_place hr (takes_of rfl rfl rfl rfl) (pa_cons (pv 0) (pa_cons (pv 1) (pa_cons (pv 2) pa_nil)))))
      (pss_one (ps_ret (pe_ix ix_seq (pe_ix ix_tup (pe_ownX D_columns_of hr (takes_of rfl rfl rfl rfl) (pa_cons (pv 0) (pa_cons (pv 1) pa_nil))) (pv 3) (fun _ _ => rfl)) pe_int (fun _ _ => rfl))))), ?_⟩
  refine ⟨.ref tp, rfl, .str t, rfl, .str c, rfl, tp, ts, t, c, rfl, hT, fun ht j H1 s1 hj => ?_, fun ht hc d H' s hd => noc ht hc d H' s hd, fun ht d hd => not ht d hd⟩
  refine ⟨.ref tp, rfl, .str t, rfl, tp, ts, t, rfl, hT.same s1, fun _ pc ys hS hA => ?_, fun hn => absurd ht hn⟩
  rw [List.getElem?_map] at hj
  obtain ⟨co, hco, e⟩ := Option.map_eq_some_iff.mp hj
  obtain ⟨y0, hy0, hd0⟩ := dpAll_at (i := j) hA (show ((colsOf ts t).map colD)[j]? = some (colD co) by rw [List.getElem?_map, hco]; rfl)
  obtain ⟨qc, hq⟩ : ∃ qc, y0 = .ref qc ∧ SqT K H1 qc [.str co.1, wV co.2] := by
    cases hd0 with
    | tup g1 g2 =>
      cases g2 with
      | cons g3 g4 =>
        cases g4 with
        | cons g5 g6 =>
          cases g6
          cases g3
          refine ⟨_, rfl, ?_⟩
          cases h : co.2 with
          | none => rw [h] at g5; cases g5; exact g1
          | some i => rw [h] at g5; cases g5; exact g1
  obtain ⟨rfl, hq⟩ := hq
  refine ⟨.int j, rfl, pc, ys, _, _, rfl, rfl, hS, atI_nat (j := j) hy0, .inr (.inl ⟨qc, _, 1, wV co.2, rfl, rfl, hq, atI_nat (j := 1) rfl, yes ht j co H1 s1 hco e⟩)⟩
end
end TT

set_option Elab.async false
set_option linter.all false
set_option maxRecDepth 100000
namespace TT
open PySem PySem.Spec PyProof.Rows L2
/-! ### a plan, its parts tuples or lists -/
def SqE (K : PySem.W.Frag) (H : Hp) (p : Addr) (xs : List V) : Prop := SqL K H p xs ∨ SqT K H p xs
theorem SqE.same {K : PySem.W.Frag} {H H' : Hp} {p : Addr} {xs : List V} (h : SqE K H p xs) (s : Same H H') : SqE K H' p xs := by
  rcases h with h | h
  · exact .inl (s.seq h)
  · exact .inr (sameT s h)
def PartsAt (K : PySem.W.Frag) (H : Hp) (v : V) (es : List (List Str)) : Prop := ∃ (p q : Addr) (xs ys : List V), v = .ref p ∧ SqE K H p xs ∧ xs[1]? = some (.ref q) ∧ SqE K H q ys ∧ ys.length = es.length ∧
  ∀ (i : Nat) (zs : List Str), es[i]? = some zs → ∃ r : Addr, ys[i]? = some (V.ref r) ∧ SqE K H r (zs.map V.str)
theorem PartsAt.same {K : PySem.W.Frag} {H H' : Hp} {v : V} {es : List (List Str)} (h : PartsAt K H v es) (s : Same H H') : PartsAt K H' v es := by
  obtain ⟨p, q, xs, ys, h1, h2, h3, h4, h5, h6⟩ := h
  refine ⟨p, q, xs, ys, h1, h2.same s, h3, h4.same s, h5, fun i zs hz => ?_⟩
  obtain ⟨r, hr, hs⟩ := h6 i zs hz
  exact ⟨r, hr, hs.same s⟩
theorem ixE {K : PySem.W.Frag} {H : Hp} {p : Addr} {xs : List V} {i : Nat} {v : V} {Q : VK} (h : SqE K H p xs) (e : xs[i]? = some v) (q : Q v H) : rIx K (.ref p) (.int (i : Int)) H Q := by
  rcases h with h | h
  · exact .inl ⟨p, xs, _, v, rfl, rfl, h, atI_nat e, q⟩
  · exact .inr (.inl ⟨p, xs, _, v, rfl, rfl, h, atI_nat e, q⟩)
def rTupOf (K : PySem.W.Frag) : List V → Hp → VK → Prop := fun xs H Q => ∃ p ys, xs = [.ref p] ∧ ((SqL K H p ys ∧ ∀ l, H l = none → Q (.ref l) (upd H l (.tup ys))) ∨ (SqT K H p ys ∧ Q (.ref p) H))
section
variable {X : Cx} {tg l : Expr} {w1 w2 : TI}
theorem pi_or (h1 : PI X tg l w1) (h2 : PI X tg l w2) : PI X tg l (fun σ H R => w1 σ H R ∨ w2 σ H R) := ⟨fun pins s σ H R I h => by
  rcases h with h | h
  · exact h1.run pins s σ H R I h
  · exact h2.run pins s σ H R I h⟩
end
section
variable {P : Program} {w : World} {K : PySem.W.Frag} {mg : Str → Option Value} {base : Heap}
def spTieOf (K : PySem.W.Frag) (C : Addr) : Sp := fun vs H Q E => ∃ (v : V) (n : Str) (es : List (List Str)), vs = [v, .str n] ∧ PartsAt K H v es ∧ (∀ zs ∈ es, 0 < zs.length) ∧
  (∀ (i : Nat) (zs : List Str) (p : Addr) (H' : Hp), es[i]? = some zs → zs[0]? = some n → (∀ (j : Nat) (zs' : List Str), j < i → es[j]? = some zs' → zs'[0]? ≠ some n) → Same H H' → SqT K H' p (zs.map V.str) → Q (.ref p) H') ∧
  ((∀ zs ∈ es, zs[0]? ≠ some n) → ∀ d, H d = none → E (.ref C) (some d) (upd H d (.xd [(kName, .str n), (kWhat, .str "tie")])))
abbrev s_tie_of : Stmt := topS 9
abbrev N_tie_of : List Str := ["plan", "tie", "part"]
theorem sc_tie_of : FnScope N_tie_of ["plan", "tie"] (defScope s_tie_of) := ⟨rfl, rfl, rfl, by decide +kernel, rfl, by decide +kernel, by decide +kernel⟩

theorem ok_tie_of {C : Addr} {f : Addr} {fd : FuncData} (N : NoS P w K mg base C) (F : Fun K "tie_of" "tie_of" s_tie_of f fd) (nb : NB mg) : FnOk P w K mg base (L2.CX P w) 3 f fd ["plan", "tie"] (spTieOf K C) := by
  refine F.okX sc_tie_of (fun vs H Q E h => ?_) (fun cdv A outer sh H vs Q E hr h => ?_)
  · obtain ⟨v, n, es, rfl, _⟩ := h
    rfl
  obtain ⟨v, n, es, rfl, hP0, hpos, yes, no⟩ := h
  have nd := sc_tie_of.nd
  refine ⟨_, (pss_cons (ps_for (passes_of rfl) rfl (pi_or (pi_list (pe_ix ix_seq (pv 0) pe_int (fun _ _ => rfl))) (pi_tup (pe_ix ix_seq (pv 0) pe_int (fun _ _ => rfl)))) (pg_name (i := 2) nd rfl (Or.inl rfl))
        (pss_one (ps_if (pt_cmpR op_eq (pe_ix ix_seq (pv 2) pe_int (fun _ _ => rfl)) (pv 1) (nomark _))
          (pss_one (ps_ret (pe_callTy call_tuple_of (by rfl) nb.b_tuple (by decide +kernel) (pa_cons (pv 2) pa_nil))))
          pss_nil)))
      (pss_one (ps_nosuch N rfl hr (takes_of rfl rfl rfl rfl) (pa_cons pe_str (pa_cons (pv 1) pa_nil))))), ?_⟩
  obtain ⟨p, q, xs, ys, rfl, hp, hx1, hq, ly, hparts⟩ := hP0
  rcases hq with hq | hq
  · refine .inl ⟨.ref p, rfl, ixE (i := 1) hp hx1 ⟨q, rfl, ⟨_, hq⟩, ?_⟩⟩
    refine for_it (walk_list (xs := ys)) (fun i σ H' => (∃ y2, σ = [some (.ref p), some (.str n), y2]) ∧ H' = H ∧ ∀ j zs', j < i → es[j]? = some zs' → zs'[0]? ≠ some n) ⟨⟨none, rfl⟩, rfl, fun j _ h => absurd h (Nat.not_lt_zero j)⟩ (fun i σ H' _ hP => by rw [hP.2.1]; exact hq) (fun i x σ H' H'' hi hP hY => ?_) (fun σ H' hP => ?_)
    · obtain ⟨rfl, hx⟩ := hY
      obtain ⟨⟨y2, rfl⟩, rfl, hn⟩ := hP
      obtain ⟨zs, hz⟩ : ∃ zs, es[i]? = some zs := ⟨_, List.getElem?_eq_getElem (show i < es.length by omega)⟩
      obtain ⟨r, hr1, hr2⟩ := hparts i zs hz
      rw [hx] at hr1
      cases hr1
      obtain ⟨z0, hz0⟩ : ∃ z, zs[0]? = some z := ⟨_, List.getElem?_eq_getElem (hpos zs (List.mem_of_getElem? hz))⟩
      refine ⟨.ref r, rfl, ixE (i := 0) hr2 (show (zs.map V.str)[0]? = some (.str z0) by rw [List.getElem?_map, hz0]; rfl) ⟨.str n, rfl, rfl, _, rfl, ite2 (fun e => ?_) (fun e => ?_)⟩⟩
      · obtain rfl : z0 = n := V.str.inj (of_decide_eq_true e)
        refine ⟨.ref r, rfl, r, zs.map V.str, rfl, ?_⟩
        rcases hr2 with hr2 | hr2
        · exact .inl ⟨hr2, fun l nl => yes i zs l _ hz hz0 hn (same_upd nl) (.inl (.inl upd_same))⟩
        · exact .inr ⟨hr2, yes i zs r _ hz hz0 hn (Same.refl _) hr2⟩
      · refine ⟨⟨_, rfl⟩, rfl, fun j zs' hj hz' => ?_⟩
        by_cases hji : j < i
        · exact hn j zs' hji hz'
        · obtain rfl : j = i := by omega
          rw [hz] at hz'
          cases hz'
          rw [hz0]
          exact fun h => e (decide_eq_true (congrArg V.str (Option.some.inj h)))
    · obtain ⟨⟨y2, rfl⟩, rfl, hn⟩ := hP
      exact ⟨.str n, rfl, ns_raise fun d hd => no (fun zs hz => by
        obtain ⟨j, hj⟩ := List.getElem?_of_mem hz
        exact hn j zs (by have := (List.getElem?_eq_some_iff.mp hj).1; omega) hj) d hd⟩
  · refine .inr ⟨.ref p, rfl, ixE (i := 1) hp hx1 ⟨q, rfl, ⟨_, hq⟩, ?_⟩⟩
    refine for_it (walk_tup (xs := ys)) (fun i σ H' => (∃ y2, σ = [some (.ref p), some (.str n), y2]) ∧ H' = H ∧ ∀ j zs', j < i → es[j]? = some zs' → zs'[0]? ≠ some n) ⟨⟨none, rfl⟩, rfl, fun j _ h => absurd h (Nat.not_lt_zero j)⟩ (fun i σ H' _ hP => by rw [hP.2.1]; exact hq) (fun i x σ H' H'' hi hP hY => ?_) (fun σ H' hP => ?_)
    · obtain ⟨rfl, hx⟩ := hY
      obtain ⟨⟨y2, rfl⟩, rfl, hn⟩ := hP
      obtain ⟨zs, hz⟩ : ∃ zs, es[i]? = some zs := ⟨_, List.getElem?_eq_getElem (show i < es.length by omega)⟩
      obtain ⟨r, hr1, hr2⟩ := hparts i zs hz
      rw [hx] at hr1
      cases hr1
      obtain ⟨z0, hz0⟩ : ∃ z, zs[0]? = some z := ⟨_, List.getElem?_eq_getElem (hpos zs (List.mem_of_getElem? hz))⟩
      refine ⟨.ref r, rfl, ixE (i := 0) hr2 (show (zs.map V.str)[0]? = some (.str z0) by rw [List.getElem?_map, hz0]; rfl) ⟨.str n, rfl, rfl, _, rfl, ite2 (fun e => ?_) (fun e => ?_)⟩⟩
      · obtain rfl : z0 = n := V.str.inj (of_decide_eq_true e)
        refine ⟨.ref r, rfl, r, zs.map V.str, rfl, ?_⟩
        rcases hr2 with hr2 | hr2
        · exact .inl ⟨hr2, fun l nl => yes i zs l _ hz hz0 hn (same_upd nl) (.inl (.inl upd_same))⟩
        · exact .inr ⟨hr2, yes i zs r _ hz hz0 hn (Same.refl _) hr2⟩
      · refine ⟨⟨_, rfl⟩, rfl, fun j zs' hj hz' => ?_⟩
        by_cases hji : j < i
        · exact hn j zs' hji hz'
        · obtain rfl : j = i := by omega
          rw [hz] at hz'
          cases hz'
          rw [hz0]
          exact fun h => e (decide_eq_true (congrArg V.str (Option.some.inj h)))
    · obtain ⟨⟨y2, rfl⟩, rfl, hn⟩ := hP
      exact ⟨.str n, rfl, ns_raise fun d hd => no (fun zs hz => by
        obtain ⟨j, hj⟩ := List.getElem?_of_mem hz
        exact hn j zs (by have := (List.getElem?_eq_some_iff.mp hj).1; omega) hj) d hd⟩
/-- the ties onto a table, new tuples or the very ones, in a new list -/
def spTiesOn (K : PySem.W.Frag) : Sp := fun vs H Q _ => ∃ (v : V) (t : Str) (es : List (List Str)), vs = [v, .str t] ∧ PartsAt K H v es ∧ (∀ zs ∈ es, 3 < zs.length) ∧ es.length ≤ 900 ∧
  ∀ (D : Addr) (us : List V) (H' : Hp), Same H H' → H' D = some (.lst us) → DpAll K H' us ((es.filter fun zs => zs[3]? == some t).map fun zs => PyData.tuple (zs.map PyData.str)) → H D = none → Q (.ref D) H'
abbrev s_ties_on : Stmt := topS 10
abbrev N_ties_on : List Str := ["plan", "table", "part"]
theorem sc_ties_on : FnScope N_ties_on ["plan", "table"] (defScope s_ties_on) := ⟨rfl, rfl, rfl, by decide +kernel, rfl, by decide +kernel, by decide +kernel⟩

set_option maxHeartbeats 1000000 in
theorem ok_ties_on {f : Addr} {fd : FuncData} (F : Fun K "ties_on" "ties_on" s_ties_on f fd) (nb : NB mg) : FnOk P w K mg base CX0 1 f fd ["plan", "table"] (spTiesOn K) := by
  refine F.ok sc_ties_on (fun vs H Q E h => ?_) (fun cdv A outer sh H vs Q E hr h => ?_)
  · obtain ⟨v, n, es, rfl, _⟩ := h
    rfl
  obtain ⟨v, t, es, rfl, hP0, hpos, hl, qq⟩ := h
  have nd := sc_ties_on.nd
  refine ⟨_, (pss_one (ps_ret (pe_lc (own := [("part", 2)]) (g := (gName 2)) rfl nd (pi_or (pi_list (pe_ix ix_seq (pv 0) pe_int (fun _ _ => rfl))) (pi_tup (pe_ix ix_seq (pv 0) pe_int (fun _ _ => rfl)))) (blkOk_by (N := N_ties_on) (sc := defScope s_ties_on) (by decide +kernel)) (fun _ _ _ _ _ => (pg_name (i := 2) nd rfl (Or.inl rfl))) (fun _ _ _ _ _ => (pts_one (pt_cmpR op_eq (pe_ix (r := rIx K) ix_seq (pv 2) pe_int (fun _ _ => rfl)) (pv 1) (nomark _)))) (fun _ _ _ _ _ => (pe_callTy (T := "tuple") (r := rTupOf K) call_tuple_of (by rfl) nb.b_tuple (by decide +kernel) (pa_cons (pv 2) pa_nil)))))), ?_⟩
  obtain ⟨p, q, xs, ys, rfl, hp, hx1, hq, ly, hparts⟩ := hP0
  have fsucc : ∀ {i : Nat} {zs : List Str}, es[i]? = some zs → ((es.take (i + 1)).filter fun zs => zs[3]? == some t) = ((es.take i).filter fun zs => zs[3]? == some t) ++ (if zs[3]? == some t then [zs] else []) := fun {i zs} h => by
    rw [List.take_add_one, h, List.filter_append]
    congr 1
    show List.filter _ [zs] = _
    rw [List.filter_cons, List.filter_nil]
  rcases hq with hq | hq
  · refine .inl ⟨.ref p, rfl, ixE (i := 1) hp hx1 ⟨q, rfl, ⟨_, hq⟩, fun D nD => ?_⟩⟩
    have smD : ∀ {H' : Hp}, Kept [D] H H' → Same H H' := fun {H'} k b o e => k b o e fun z => by rw [List.mem_singleton.mp z, nD] at e; cases e
    refine lc_it (walk_list (xs := ys)) (fun i H' => ∃ us, H' D = some (.lst us) ∧ DpAll K (msk [D] H') us (((es.take i).filter fun zs => zs[3]? == some t).map fun zs => PyData.tuple (zs.map PyData.str)) ∧ us.length ≤ i ∧ Kept [D] H H') ⟨[], upd_same, .nil, Nat.le_refl _, Kept.upd_in (List.mem_cons_self ..)⟩ (fun i H' _ hP => (smD hP.choose_spec.2.2.2).seq hq) (fun i x H' H'' hi hP hY => ?_) (fun H4 hP => ?_)
    · obtain ⟨rfl, hx⟩ := hY
      obtain ⟨us, eD, dp, lu, k⟩ := hP
      obtain ⟨zs, hz⟩ : ∃ zs, es[i]? = some zs := ⟨_, List.getElem?_eq_getElem (show i < es.length by omega)⟩
      obtain ⟨r, hr1, hr2⟩ := hparts i zs hz
      rw [hx] at hr1
      cases hr1
      have i9 : i < es.length := by omega
      obtain ⟨z3, hz3⟩ : ∃ z, zs[3]? = some z := ⟨_, List.getElem?_eq_getElem (hpos zs (List.mem_of_getElem? hz))⟩
      have hr3 := hr2.same (smD k)
      refine ⟨rfl, ?_⟩
      refine ⟨.ref r, rfl, ixE (i := 3) hr3 (show (zs.map V.str)[3]? = some (.str z3) by rw [List.getElem?_map, hz3]; rfl) ⟨.str t, rfl, rfl, _, rfl, ite2 (fun e => ?_) (fun e => ?_)⟩⟩
      · obtain rfl : z3 = t := V.str.inj (of_decide_eq_true e)
        have ef := fsucc hz
        rw [hz3, show (some z3 == some z3) = true by simp, if_pos rfl] at ef
        refine ⟨.ref r, rfl, r, zs.map V.str, rfl, ?_⟩
        rcases hr2 with hr2 | hr2
        · refine .inl ⟨(smD k).seq hr2, fun l nl => ?_⟩
          have nDl : D ≠ l := ne_of_none eD nl
          refine ⟨us, by rw [upd_ne nDl]; exact eD, small1000 (by omega), us ++ [.ref l], upd_same, ?_, by rw [List.length_append]; show us.length + 1 ≤ i + 1; omega, (k.trans (Kept.upd_new nl)).trans (Kept.upd_in (List.mem_cons_self ..))⟩
          have kk : Kept [D] H'' (upd (upd H'' l (.tup (zs.map V.str))) D (.lst (us ++ [.ref l]))) := (Kept.upd_new nl).trans (Kept.upd_in (List.mem_cons_self ..))
          rw [ef, List.map_append]
          refine dpAll_snoc (dpAll_same (msk_same kk) dp) ?_
          refine .tup (xs := zs.map V.str) (.inl (.inl ?_)) (dp_strs zs)
          exact msk_at (by rw [upd_ne nDl.symm, upd_same]) (by simp [nDl.symm])
        · refine .inr ⟨sameT (smD k) hr2, ?_⟩
          refine ⟨us, eD, small1000 (by omega), us ++ [.ref r], upd_same, ?_, by rw [List.length_append]; show us.length + 1 ≤ i + 1; omega, k.trans (Kept.upd_in (List.mem_cons_self ..))⟩
          have kk : Kept [D] H'' (upd H'' D (.lst (us ++ [.ref r]))) := Kept.upd_in (List.mem_cons_self ..)
          rw [ef, List.map_append]
          refine dpAll_snoc (dpAll_same (msk_same kk) dp) ?_
          refine dp_same (H := msk [D] H) (msk_same (k.trans kk)) (.tup (xs := zs.map V.str) ?_ (dp_strs zs))
          exact sameT (fun b o e => msk_at e fun z => by rw [List.mem_singleton.mp z, nD] at e; cases e) hr2
      · have e : ¬ z3 = t := fun z => e (decide_eq_true (congrArg V.str z))
        refine ⟨us, eD, ?_, by omega, k⟩
        have ef := fsucc hz
        rw [hz3, show (some z3 == some t) = false by simp [e], if_neg (by decide), List.append_nil] at ef
        rw [ef]
        exact dp
    · obtain ⟨us, eD, dp, lu, k⟩ := hP
      rw [ly, List.take_length] at dp
      exact qq D us H4 (smD k) eD (dpAll_same (msk_sub _ _) dp) nD
  · refine .inr ⟨.ref p, rfl, ixE (i := 1) hp hx1 ⟨q, rfl, ⟨_, hq⟩, fun D nD => ?_⟩⟩
    have smD : ∀ {H' : Hp}, Kept [D] H H' → Same H H' := fun {H'} k b o e => k b o e fun z => by rw [List.mem_singleton.mp z, nD] at e; cases e
    refine lc_it (walk_tup (xs := ys)) (fun i H' => ∃ us, H' D = some (.lst us) ∧ DpAll K (msk [D] H') us (((es.take i).filter fun zs => zs[3]? == some t).map fun zs => PyData.tuple (zs.map PyData.str)) ∧ us.length ≤ i ∧ Kept [D] H H') ⟨[], upd_same, .nil, Nat.le_refl _, Kept.upd_in (List.mem_cons_self ..)⟩ (fun i H' _ hP => sameT (smD hP.choose_spec.2.2.2) hq) (fun i x H' H'' hi hP hY => ?_) (fun H4 hP => ?_)
    · obtain ⟨rfl, hx⟩ := hY
      obtain ⟨us, eD, dp, lu, k⟩ := hP
      obtain ⟨zs, hz⟩ : ∃ zs, es[i]? = some zs := ⟨_, List.getElem?_eq_getElem (show i < es.length by omega)⟩
      obtain ⟨r, hr1, hr2⟩ := hparts i zs hz
      rw [hx] at hr1
      cases hr1
      have i9 : i < es.length := by omega
      obtain ⟨z3, hz3⟩ : ∃ z, zs[3]? = some z := ⟨_, List.getElem?_eq_getElem (hpos zs (List.mem_of_getElem? hz))⟩
      have hr3 := hr2.same (smD k)
      refine ⟨rfl, ?_⟩
      refine ⟨.ref r, rfl, ixE (i := 3) hr3 (show (zs.map V.str)[3]? = some (.str z3) by rw [List.getElem?_map, hz3]; rfl) ⟨.str t, rfl, rfl, _, rfl, ite2 (fun e => ?_) (fun e => ?_)⟩⟩
      · obtain rfl : z3 = t := V.str.inj (of_decide_eq_true e)
        have ef := fsucc hz
        rw [hz3, show (some z3 == some z3) = true by simp, if_pos rfl] at ef
        refine ⟨.ref r, rfl, r, zs.map V.str, rfl, ?_⟩
        rcases hr2 with hr2 | hr2
        · refine .inl ⟨(smD k).seq hr2, fun l nl => ?_⟩
          have nDl : D ≠ l := ne_of_none eD nl
          refine ⟨us, by rw [upd_ne nDl]; exact eD, small1000 (by omega), us ++ [.ref l], upd_same, ?_, by rw [List.length_append]; show us.length + 1 ≤ i + 1; omega, (k.trans (Kept.upd_new nl)).trans (Kept.upd_in (List.mem_cons_self ..))⟩
          have kk : Kept [D] H'' (upd (upd H'' l (.tup (zs.map V.str))) D (.lst (us ++ [.ref l]))) := (Kept.upd_new nl).trans (Kept.upd_in (List.mem_cons_self ..))
          rw [ef, List.map_append]
          refine dpAll_snoc (dpAll_same (msk_same kk) dp) ?_
          refine .tup (xs := zs.map V.str) (.inl (.inl ?_)) (dp_strs zs)
          exact msk_at (by rw [upd_ne nDl.symm, upd_same]) (by simp [nDl.symm])
        · refine .inr ⟨sameT (smD k) hr2, ?_⟩
          refine ⟨us, eD, small1000 (by omega), us ++ [.ref r], upd_same, ?_, by rw [List.length_append]; show us.length + 1 ≤ i + 1; omega, k.trans (Kept.upd_in (List.mem_cons_self ..))⟩
          have kk : Kept [D] H'' (upd H'' D (.lst (us ++ [.ref r]))) := Kept.upd_in (List.mem_cons_self ..)
          rw [ef, List.map_append]
          refine dpAll_snoc (dpAll_same (msk_same kk) dp) ?_
          refine dp_same (H := msk [D] H) (msk_same (k.trans kk)) (.tup (xs := zs.map V.str) ?_ (dp_strs zs))
          exact sameT (fun b o e => msk_at e fun z => by rw [List.mem_singleton.mp z, nD] at e; cases e) hr2
      · have e : ¬ z3 = t := fun z => e (decide_eq_true (congrArg V.str z))
        refine ⟨us, eD, ?_, by omega, k⟩
        have ef := fsucc hz
        rw [hz3, show (some z3 == some t) = false by simp [e], if_neg (by decide), List.append_nil] at ef
        rw [ef]
        exact dp
    · obtain ⟨us, eD, dp, lu, k⟩ := hP
      rw [ly, List.take_length] at dp
      exact qq D us H4 (smD k) eD (dpAll_same (msk_sub _ _) dp) nD
end
end TT

set_option Elab.async false
set_option linter.all false
set_option maxRecDepth 100000
namespace TT
open PySem PySem.Spec PyProof.Rows L2 RZ
theorem walk_zipT {K : PySem.W.Frag} {a b : Addr} {xs ys : List V} {n : Nat} (hn : n = min xs.length ys.length) : Walk (ItzT K a b) n (fun H => SqT K H a xs ∧ SqT K H b ys) (YPair (fun i => xs[i]?) (fun i => ys[i]?)) := by
  subst hn
  refine ⟨fun i H hi q => ⟨xs, ys, xs[i]'(by omega), ys[i]'(by omega), q.1, q.2, List.getElem?_eq_getElem _, List.getElem?_eq_getElem _⟩, fun _ q => ⟨xs, ys, q.1, q.2, by omega⟩, fun i H v H' _ q y => ?_⟩
  obtain ⟨T, x, z, h1, h2, h3, h4, h5⟩ := y
  exact ⟨T, x, z, h1, h2, h3, h4 xs q.1, h5 ys q.2⟩
theorem sameL {K : PySem.W.Frag} {H H' : Hp} {a : Addr} {xs : List V} (e : Same H H') (h : SqL K H a xs) : SqL K H' a xs := e.seq h
section
variable {P : Program} {w : World} {K : PySem.W.Frag} {mg : Str → Option Value} {base : Heap}
/-- of two of the same data -/
def spSame (n : Nat) (K : PySem.W.Frag) : Sp := fun vs H Q _ => ∃ (v u : V) (d : PyData), vs = [v, u] ∧ Dp K H v d ∧ Dp K H u d ∧ d.depth < n ∧ Nice (10 ^ 12) 900 d ∧ ∀ H', Same H H' → Q (.bl true) H'
abbrev s_law_same : Stmt := topS 19
abbrev N_law_same : List Str := ["found", "due", "one", "other"]
theorem sc_law_same : FnScope N_law_same ["found", "due"] (defScope s_law_same) := ⟨rfl, rfl, rfl, by decide +kernel, rfl, by decide +kernel, by decide +kernel⟩

set_option maxHeartbeats 4000000 in
theorem ok_same1 {n : Nat} {f : Addr} {fd : FuncData} (F : Fun K "_law_same" "_law_same" s_law_same f fd) (nb : NB mg) (D_law_same : Def P w K mg base (1 + n) "_law_same" ["found", "due"] (spSame n K)) : FnOk P w K mg base CX0 (1 + n + 1) f fd ["found", "due"] (spSame (n + 1) K) := by
  refine F.ok sc_law_same (fun vs H Q E h => ?_) (fun cdv A outer sh H vs Q E hr h => ?_)
  · obtain ⟨v, u, d, rfl, _⟩ := h
    rfl
  obtain ⟨v, u, d, rfl, hd, he, hdep, hn, q⟩ := h
  have nd := sc_law_same.nd
  refine ⟨_, (pss_cons (ps_if (pt_val (pe_callB call_isiT (by rfl) nb.b_isinstance (by decide +kernel) (pa_cons (pv 1) (pa_cons (pe_tup (pa_cons (pe_bltn (v := .ty "list") (by rfl) nb.b_list (by decide +kernel) rfl) (pa_cons (pe_bltn (v := .ty "tuple") (by rfl) nb.b_tuple (by decide +kernel) rfl) pa_nil))) pa_nil))))
        (pss_cons (ps_if (PW.pt (pw_or (pt_cmpR op_ne (pe_callB call_isi (by rfl) nb.b_isinstance (by decide +kernel) (pa_cons (pv 0) (pa_cons (pe_bltn (v := .ty "list") (by rfl) nb.b_list (by decide +kernel) rfl) pa_nil))) (pe_callB call_isi (by rfl) nb.b_isinstance (by decide +kernel) (pa_cons (pv 1) (pa_cons (pe_bltn (v := .ty "list") (by rfl) nb.b_list (by decide +kernel) rfl) pa_nil))) (nomark _)) (pw_or1 (pt_cmpR op_ne (pe_callB call_isi (by rfl) nb.b_isinstance (by decide +kernel) (pa_cons (pv 0) (pa_cons (pe_bltn (v := .ty "tuple") (by rfl) nb.b_tuple (by decide +kernel) rfl) pa_nil))) (pe_callB call_isi (by rfl) nb.b_isinstance (by decide +kernel) (pa_cons (pv 1) (pa_cons (pe_bltn (v := .ty "tuple") (by rfl) nb.b_tuple (by decide +kernel) rfl) pa_nil))) (nomark _)))))
          (pss_one (ps_ret pe_bl))
          pss_nil)
        (pss_one (ps_ret (pe_and (pe_cmpR op_eq (pe_callB call_len (by rfl) nb.b_len (by decide +kernel) (pa_cons (pv 0) pa_nil)) (pe_callB call_len (by rfl) nb.b_len (by decide +kernel) (pa_cons (pv 1) pa_nil)) (nomark _)) (pe_one (pe_callB (cr_all rfl) (by rfl) nb.b_all (by decide +kernel) (pa_cons (pe_lc (own := [("one", 2), ("other", 3)]) (g := (gTup _ 2 (gCons (gName 2) (gCons (gName 3) gNil)))) (tt := tYes) rfl nd (pi_zipA (by rfl) nb.b_zip (pa_cons (pv 0) (pa_cons (pv 1) pa_nil))) (blkOk_by (N := N_law_same) (sc := defScope s_law_same) (by decide +kernel)) (fun _ _ _ _ _ => (pg_tup rfl (pgs_cons (pg_name (i := 2) nd rfl (Or.inl rfl)) (pgs_cons (pg_name (i := 3) nd rfl (Or.inl rfl)) pgs_nil)))) (fun _ _ _ _ _ => pts_nil) (fun _ _ _ _ _ => (pe_own D_law_same hr (pa_cons (pv 2) (pa_cons (pv 3) pa_nil)) (by omega)))) pa_nil)))))))
        pss_nil)
      (pss_cons (ps_if (pt_cmpR op_isN (pv 1) pe_non (nomark _))
        (pss_one (ps_ret (pe_cmpR op_isN (pv 0) pe_non (nomark _))))
        pss_nil)
      (pss_cons (ps_if (pt_val (pe_callB call_isi (by rfl) nb.b_isinstance (by decide +kernel) (pa_cons (pv 1) (pa_cons (pe_bltn (v := .ty "bool") (by rfl) nb.b_bool (by decide +kernel) rfl) pa_nil))))
        (pss_one (ps_ret (pe_and (pe_callB call_isi (by rfl) nb.b_isinstance (by decide +kernel) (pa_cons (pv 0) (pa_cons (pe_bltn (v := .ty "bool") (by rfl) nb.b_bool (by decide +kernel) rfl) pa_nil))) (pe_one (pe_cmpR (op_eqD hr.units) (pv 0) (pv 1) (nomark _))))))
        pss_nil)
      (pss_cons (ps_if (pt_val (pe_callB call_isi (by rfl) nb.b_isinstance (by decide +kernel) (pa_cons (pv 1) (pa_cons (pe_bltn (v := .ty "str") (by rfl) nb.b_str (by decide +kernel) rfl) pa_nil))))
        (pss_one (ps_ret (pe_and (pe_callB call_isi (by rfl) nb.b_isinstance (by decide +kernel) (pa_cons (pv 0) (pa_cons (pe_bltn (v := .ty "str") (by rfl) nb.b_str (by decide +kernel) rfl) pa_nil))) (pe_one (pe_cmpR op_eq (pv 0) (pv 1) (nomark _))))))
        pss_nil)
      (pss_one (ps_ret (pe_and (pe_callB call_isi (by rfl) nb.b_isinstance (by decide +kernel) (pa_cons (pv 0) (pa_cons (pe_bltn (v := .ty "int") (by rfl) nb.b_int (by decide +kernel) rfl) pa_nil))) (pe_and (pe_not (pe_callB call_isi (by rfl) nb.b_isinstance (by decide +kernel) (pa_cons (pv 0) (pa_cons (pe_bltn (v := .ty "bool") (by rfl) nb.b_bool (by decide +kernel) rfl) pa_nil)))) (pe_one (pe_cmpR (op_eqD hr.units) (pv 0) (pv 1) (nomark _))))))))))), ?_⟩
  refine ⟨u, rfl, (by show 2 ≤ sizeLine; decide), fun tt ntt => ?_⟩
  have sm := same_upd (o := .tup [.ty "list", .ty "tuple"]) ntt
  refine ⟨u, tt, _, _, [.type "list", .type "tuple"], _, rfl, upd_same, .cons (.ty _) (.cons (.ty _) .nil), dp_ty (dp_same sm he), kit_lt d, _, rfl, ?_⟩
  show (if _ then _ else _)
  generalize upd H tt (.tup [.ty "list", .ty "tuple"]) = H1 at sm ⊢
  cases d with
  | list ds =>
    cases hd with
    | lst hS hA =>
    rename_i p xs
    cases he with
    | lst hS2 hA2 =>
    rename_i p2 ys
    have lx := dpAll_len hA
    have ly := dpAll_len hA2
    have l9 : ds.length ≤ 900 := hn.1
    refine iteT ?_
    refine ⟨.ref p, rfl, .ref p, .ty "list", _, _, _, rfl, .ty "list", dp_ty (.lst (sameL sm hS) (dpAll_same sm hA)), kit_l (.list ds), .ref p2, rfl, .ref p2, .ty "list", _, _, _, rfl, .ty "list", dp_ty (.lst (sameL sm hS2) (dpAll_same sm hA2)), kit_l (.list ds), rfl, _, rfl, ?_⟩
    rw [decide_eq_true rfl]
    refine iteF ?_
    refine ⟨.ref p, rfl, .ref p, .ty "tuple", _, _, _, rfl, .ty "tuple", dp_ty (.lst (sameL sm hS) (dpAll_same sm hA)), kit_t (.list ds), .ref p2, rfl, .ref p2, .ty "tuple", _, _, _, rfl, .ty "tuple", dp_ty (.lst (sameL sm hS2) (dpAll_same sm hA2)), kit_t (.list ds), rfl, _, rfl, ?_⟩
    rw [decide_eq_true rfl]
    refine iteF ?_
    refine ⟨.ref p, rfl, .ref p, xs.length, rfl, .inl ⟨xs, sameL sm hS, rfl⟩, .ref p2, rfl, .ref p2, xs.length, rfl, .inl ⟨ys, sameL sm hS2, by omega⟩, rfl, _, rfl, ?_⟩
    rw [decide_eq_true rfl]
    refine iteT ?_
    refine ⟨.ref p, rfl, .ref p2, rfl, p, p2, xs, ys, rfl, .inl ⟨sameL sm hS, sameL sm hS2, fun D nD => ?_⟩⟩
    refine lc_it (walk_zip (xs := xs) (ys := ys) (n := xs.length) (by omega)) (PvM H1 D fun _ => .bl true) (pvm_start ..) (fun i H2 _ hP => ⟨sameL (sm.trans (pvm_same hP nD)) hS, sameL (sm.trans (pvm_same hP nD)) hS2⟩) (fun i x H2 H3 hi hP hY => ?_) (fun H2 hP => ?_)
    · obtain ⟨T, x1, y1, rfl, nT, rfl, h1, h2⟩ := hY
      obtain ⟨e1, k1, k2⟩ := dpAll_get i hA h1
      obtain ⟨e2, k3, k4⟩ := dpAll_get i hA2 h2
      rw [k1] at k3
      cases k3
      have s3 := sm.trans ((pvm_same hP nD).trans (same_upd (o := .tup [x1, y1]) nT))
      have hm := List.mem_of_getElem? k1
      refine ⟨T, _, rfl, .inl (.inl upd_same), rfl, x1, _, rfl, y1, _, rfl, rfl, ?_⟩
      refine ⟨rfl, ?_⟩
      unfold tYes
      dsimp only
      refine iteT ?_
      refine ⟨x1, rfl, y1, rfl, x1, y1, e1, rfl, dp_same s3 k2, dp_same s3 k4, ?_, niceAll_iff.mp hn.2 e1 hm, fun H4 s4 => pvm_step hP ((same_upd nT).trans s4) rfl (by omega)⟩
      have := depth_mem hm
      have hdep' : PyData.depthAll ds + 1 < n + 1 := hdep
      omega
    · refine ⟨D, (List.range xs.length).map fun _ => true, rfl, .inl (.inl ?_), ?_⟩
      · rw [hP.1, List.map_map]; rfl
      · have e : ((List.range xs.length).map fun _ => true).all id = true := List.all_eq_true.mpr fun b hb => by
          obtain ⟨_, _, rfl⟩ := List.mem_map.mp hb
          rfl
        rw [e]
        exact q _ (sm.trans (pvm_same hP nD))
  | tuple ds =>
    cases hd with
    | tup hS hA =>
    rename_i p xs
    cases he with
    | tup hS2 hA2 =>
    rename_i p2 ys
    have lx := dpAll_len hA
    have ly := dpAll_len hA2
    have l9 : ds.length ≤ 900 := hn.1
    refine iteT ?_
    refine ⟨.ref p, rfl, .ref p, .ty "list", _, _, _, rfl, .ty "list", dp_ty (.tup (sameT sm hS) (dpAll_same sm hA)), kit_l (.tuple ds), .ref p2, rfl, .ref p2, .ty "list", _, _, _, rfl, .ty "list", dp_ty (.tup (sameT sm hS2) (dpAll_same sm hA2)), kit_l (.tuple ds), rfl, _, rfl, ?_⟩
    rw [decide_eq_true rfl]
    refine iteF ?_
    refine ⟨.ref p, rfl, .ref p, .ty "tuple", _, _, _, rfl, .ty "tuple", dp_ty (.tup (sameT sm hS) (dpAll_same sm hA)), kit_t (.tuple ds), .ref p2, rfl, .ref p2, .ty "tuple", _, _, _, rfl, .ty "tuple", dp_ty (.tup (sameT sm hS2) (dpAll_same sm hA2)), kit_t (.tuple ds), rfl, _, rfl, ?_⟩
    rw [decide_eq_true rfl]
    refine iteF ?_
    refine ⟨.ref p, rfl, .ref p, xs.length, rfl, .inr ⟨xs, sameT sm hS, rfl⟩, .ref p2, rfl, .ref p2, xs.length, rfl, .inr ⟨ys, sameT sm hS2, by omega⟩, rfl, _, rfl, ?_⟩
    rw [decide_eq_true rfl]
    refine iteT ?_
    refine ⟨.ref p, rfl, .ref p2, rfl, p, p2, xs, ys, rfl, .inr ⟨sameT sm hS, sameT sm hS2, fun D nD => ?_⟩⟩
    refine lc_it (walk_zipT (xs := xs) (ys := ys) (n := xs.length) (by omega)) (PvM H1 D fun _ => .bl true) (pvm_start ..) (fun i H2 _ hP => ⟨sameT (sm.trans (pvm_same hP nD)) hS, sameT (sm.trans (pvm_same hP nD)) hS2⟩) (fun i x H2 H3 hi hP hY => ?_) (fun H2 hP => ?_)
    · obtain ⟨T, x1, y1, rfl, nT, rfl, h1, h2⟩ := hY
      obtain ⟨e1, k1, k2⟩ := dpAll_get i hA h1
      obtain ⟨e2, k3, k4⟩ := dpAll_get i hA2 h2
      rw [k1] at k3
      cases k3
      have s3 := sm.trans ((pvm_same hP nD).trans (same_upd (o := .tup [x1, y1]) nT))
      have hm := List.mem_of_getElem? k1
      refine ⟨T, _, rfl, .inl (.inl upd_same), rfl, x1, _, rfl, y1, _, rfl, rfl, ?_⟩
      refine ⟨rfl, ?_⟩
      unfold tYes
      dsimp only
      refine iteT ?_
      refine ⟨x1, rfl, y1, rfl, x1, y1, e1, rfl, dp_same s3 k2, dp_same s3 k4, ?_, niceAll_iff.mp hn.2 e1 hm, fun H4 s4 => pvm_step hP ((same_upd nT).trans s4) rfl (by omega)⟩
      have := depth_mem hm
      have hdep' : PyData.depthAll ds + 1 < n + 1 := hdep
      omega
    · refine ⟨D, (List.range xs.length).map fun _ => true, rfl, .inl (.inl ?_), ?_⟩
      · rw [hP.1, List.map_map]; rfl
      · have e : ((List.range xs.length).map fun _ => true).all id = true := List.all_eq_true.mpr fun b hb => by
          obtain ⟨_, _, rfl⟩ := List.mem_map.mp hb
          rfl
        rw [e]
        exact q _ (sm.trans (pvm_same hP nD))
  | dict _ => exact hn.elim
  | none =>
    cases hd
    cases he
    refine iteF ?_
    refine ⟨.non, rfl, rfl, _, rfl, ?_⟩
    rw [decide_eq_true rfl]
    refine iteT ⟨.non, rfl, rfl, ?_⟩
    rw [decide_eq_true rfl]
    exact q _ sm
  | bool b =>
    cases hd
    cases he
    refine iteF ⟨.bl b, rfl, rfl, _, rfl, iteF ?_⟩
    refine ⟨.bl b, rfl, .bl b, .ty "bool", _, _, _, rfl, .ty "bool", dp_ty (.bl b), kit_b (.bool b), _, rfl, iteT ?_⟩
    refine ⟨.bl b, rfl, .bl b, .ty "bool", _, _, _, rfl, .ty "bool", dp_ty (.bl b), kit_b (.bool b), _, rfl, iteT ?_⟩
    refine ⟨.bl b, rfl, .bl b, rfl, .bool b, .bool b, .bl b, .bl b, rfl, rfl, ?_⟩
    have e : PyData.eqv (.bool b) (.bool b) = true := by show (b == b) = true; simp
    rw [e]
    exact q _ sm
  | str z =>
    cases hd
    cases he
    refine iteF ⟨.str z, rfl, rfl, _, rfl, iteF ?_⟩
    refine ⟨.str z, rfl, .str z, .ty "bool", _, _, _, rfl, .ty "bool", dp_ty (.str z), kit_b (.str z), _, rfl, iteF ?_⟩
    refine ⟨.str z, rfl, .str z, .ty "str", _, _, _, rfl, .ty "str", dp_ty (.str z), kit_s (.str z), _, rfl, iteT ?_⟩
    refine ⟨.str z, rfl, .str z, .ty "str", _, _, _, rfl, .ty "str", dp_ty (.str z), kit_s (.str z), _, rfl, iteT ?_⟩
    refine ⟨.str z, rfl, .str z, rfl, rfl, ?_⟩
    rw [decide_eq_true rfl]
    exact q _ sm
  | int i =>
    cases hd
    cases he
    refine iteF ⟨.int i, rfl, rfl, _, rfl, iteF ?_⟩
    refine ⟨.int i, rfl, .int i, .ty "bool", _, _, _, rfl, .ty "bool", dp_ty (.int i), kit_b (.int i), _, rfl, iteF ?_⟩
    refine ⟨.int i, rfl, .int i, .ty "str", _, _, _, rfl, .ty "str", dp_ty (.int i), kit_s (.int i), _, rfl, iteF ?_⟩
    refine ⟨.int i, rfl, .int i, .ty "int", _, _, _, rfl, .ty "int", dp_ty (.int i), kit_i (.int i), _, rfl, iteT ?_⟩
    refine ⟨.int i, rfl, .int i, .ty "bool", _, _, _, rfl, .ty "bool", dp_ty (.int i), kit_b (.int i), _, rfl, _, rfl, iteT ?_⟩
    refine ⟨.int i, rfl, .int i, rfl, .int i, .int i, .int i, .int i, rfl, rfl, ?_⟩
    have e : PyData.eqv (.int i) (.int i) = true := by show (i == i) = true; simp
    rw [e]
    exact q _ sm
theorem ok_same {f : Addr} {fd : FuncData} (F : Fun K "_law_same" "_law_same" s_law_same f fd) (nb : NB mg) (hm : mg "_law_same" = some (.ref f)) (hb : Binds K fd ["found", "due"] []) : ∀ n : Nat, FnOk P w K mg base CX0 (1 + n) f fd ["found", "due"] (spSame n K)
  | 0 => ⟨fun vs H Q E h => by obtain ⟨v, u, d, rfl, _⟩ := h; rfl, fun _ _ _ _ _ _ _ _ _ _ _ _ _ h => by
      obtain ⟨v, u, d, rfl, _, _, hd, _⟩ := h
      exact absurd hd (Nat.not_lt_zero _)⟩
  | n + 1 => ok_same1 F nb (.mk hm F.kp hb (ok_same F nb hm hb n))
end
end TT

set_option Elab.async false
set_option linter.all false
set_option maxRecDepth 100000
namespace TT
open PySem PySem.Spec PyProof.Rows L2
/-- the built-in errors' names stand as they are; what is said of the two classes -/
structure NE (K : PySem.W.Frag) (mg : Str → Option Value) (C CT : Addr) : Prop where
  b_ValueError : mg "ValueError" = none
  b_KeyError : mg "KeyError" = none
  b_IndexError : mg "IndexError" = none
  b_LookupError : mg "LookupError" = none
  g : mg "TableError" = some (.ref CT)
  kx : KxC K C
  te : PySem.W.exmOne K (.ref C) (.ref C) = some true
  k1 : PySem.W.kitAny K (.ref C) [.ref CT, .type "ValueError", .type "KeyError", .type "IndexError"] = some false
  k2 : PySem.W.kitOne K (.ref C) (.type "LookupError") = some true
  fw : PySem.W.findIn K (.ref C) "what" = some none
  fn : PySem.W.findIn K (.ref C) "name" = some none
def PlanT (K : PySem.W.Frag) (H : Hp) (v : V) (ts : List Tab) : Prop := ∃ (p tp : Addr) (xs : List V), v = .ref p ∧ SqE K H p xs ∧ xs[0]? = some (.ref tp) ∧ Tabs K H tp ts
/-- what is told of each question -/
def Tells (K : PySem.W.Frag) (H : Hp) (wh : Int) (v : V) (t c : Str) (e : PyData) : Prop :=
  (∃ ts, (wh = 0 ∨ wh = 1) ∧ PlanT K H v ts ∧
    ((t ∉ tns ts ∧ e = .tuple [.str "table", .str t]) ∨ (t ∈ tns ts ∧ c ∉ cns ts t ∧ e = .tuple [.str "column", .str c]) ∨
      ∃ (j : Nat) (co : Col), t ∈ tns ts ∧ (colsOf ts t)[j]? = some co ∧ co.1 = c ∧ ((wh = 0 ∧ e = .tuple [.str "told", .int j]) ∨ (wh = 1 ∧ e = .tuple [.str "told", wD co.2])))) ∨
  (∃ es, wh = 2 ∧ PartsAt K H v es ∧ (∀ zs ∈ es, 0 < zs.length) ∧
    (((∀ zs ∈ es, zs[0]? ≠ some t) ∧ e = .tuple [.str "tie", .str t]) ∨
      ∃ (i : Nat) (zs : List Str), es[i]? = some zs ∧ zs[0]? = some t ∧ (∀ (j : Nat) (zs' : List Str), j ≠ i → es[j]? = some zs' → zs'[0]? ≠ some t) ∧ e = .tuple [.str "told", .tuple (zs.map PyData.str)]))
def spTold (K : PySem.W.Frag) : Sp := fun vs H Q _ => ∃ (wh : Int) (v : V) (t c : Str) (e : PyData), vs = [.int wh, v, .str t, .str c] ∧ Tells K H wh v t c e ∧ ∀ (r : Addr) (H' : Hp), Same H H' → Dp K H' (.ref r) e → Q (.ref r) H'
section
variable {P : Program} {w : World} {K : PySem.W.Frag} {mg : Str → Option Value} {base : Heap}
abbrev s_law_told : Stmt := topS 20
abbrev N_law_told : List Str := ["which", "plan", "table", "column", "found", "caught", "error"]
theorem sc_law_told : FnScope N_law_told ["which", "plan", "table", "column"] (defScope s_law_told) := ⟨rfl, rfl, rfl, by decide +kernel, rfl, by decide +kernel, by decide +kernel⟩

set_option maxHeartbeats 4000000 in
theorem ok_law_told {C CT : Addr} {f : Addr} {fd : FuncData} (N : NoS P w K mg base C) (ne : NE K mg C CT) (F : Fun K "_law_told" "_law_told" s_law_told f fd) (nb : NB mg) (D_column_place : DefX P w K mg base 5 "column_place" ["tables", "table", "column"] (spPlaceX K C))
    (D_fallback_of : DefX P w K mg base 6 "fallback_of" ["tables", "table", "column"] (spFallX K C)) (D_tie_of : DefX P w K mg base 3 "tie_of" ["plan", "tie"] (spTieOf K C)) : FnOk P w K mg base CX0 7 f fd ["which", "plan", "table", "column"] (spTold K) := by
  refine F.ok sc_law_told (fun vs H Q E h => ?_) (fun cdv A outer sh H vs Q E hr h => ?_)
  · obtain ⟨wh, v, t, c, e, rfl, _⟩ := h
    rfl
  obtain ⟨wh, v, t, c, e, rfl, hT, q⟩ := h
  have nd := sc_law_told.nd
  refine ⟨_, (pss_cons (ps_asg (pe_tup (pa_cons pe_non (pa_cons pe_non pa_nil))) (pg_tup rfl (pgs_cons (pg_name (i := 4) nd rfl (Or.inl rfl)) (pgs_cons (pg_name (i := 5) nd rfl (Or.inl rfl)) pgs_nil))))
      (pss_cons (ps_try_keep (i := 6) (j := 5) (c := .ref C) (Wout := fun _ _ _ _ => False) rfl rfl nd rfl rfl rfl (by decide) rfl ⟨rfl, by decide, Or.inl N.g⟩ takes0
        (fun W pn xe tk _ => pss_one (ps_if (pt_cmpR op_eq (pv 0) pe_int (nomark _))
          (pss_one (ps_set (i := 4) nd rfl (Or.inl rfl) (by exact (pe_ownX D_column_place hr tk (pa_cons (pe_ix (r := rIx K) ix_seq (pv 1) pe_int (fun _ _ => rfl)) (pa_cons (pv 2) (pa_cons (pv 3) pa_nil)))))))
          (pss_one (ps_if (pt_cmpR op_eq (pv 0) pe_int (nomark _))
            (pss_one (ps_set (i := 4) nd rfl (Or.inl rfl) (by exact (pe_ownX D_fallback_of hr tk (pa_cons (pe_ix (r := rIx K) ix_seq (pv 1) pe_int (fun _ _ => rfl)) (pa_cons (pv 2) (pa_cons (pv 3) pa_nil)))))))
            (pss_one (ps_set (i := 4) nd rfl (Or.inl rfl) (by exact (pe_ownX D_tie_of hr tk (pa_cons (pv 1) (pa_cons (pv 2) pa_nil)))))))))) 
        (fun a oe pn => pss_one (ps_set (i := 5) nd rfl (Or.inl rfl) (pv 6))))
      (pss_cons (ps_if (pt_cmpR op_isN (pv 5) pe_non (nomark _))
        (pss_one (ps_ret (pe_tup (pa_cons pe_str (pa_cons (pv 4) pa_nil)))))
        pss_nil)
      (pss_cons (ps_if (PW.pt (pw_or (pt_val (pe_callB call_isXT (by rfl) nb.b_isinstance (by decide +kernel) (pa_cons (pv 5) (pa_cons (pe_tup (pa_cons (pe_glob (v := .ref CT) (by rfl) ne.g rfl) (pa_cons (pe_bltn (v := .ty "ValueError") (by rfl) ne.b_ValueError (by decide +kernel) rfl) (pa_cons (pe_bltn (v := .ty "KeyError") (by rfl) ne.b_KeyError (by decide +kernel) rfl) (pa_cons (pe_bltn (v := .ty "IndexError") (by rfl) ne.b_IndexError (by decide +kernel) rfl) pa_nil))))) pa_nil)))) (pw_or1 (pt_not (pt_val (pe_callB call_isX (by rfl) nb.b_isinstance (by decide +kernel) (pa_cons (pv 5) (pa_cons (pe_bltn (v := .ty "LookupError") (by rfl) ne.b_LookupError (by decide +kernel) rfl) pa_nil))))))))
        (pss_one (ps_ret pe_str))
        pss_nil)
      (pss_one (ps_ret (pe_tup (pa_cons (pe_xk (pv 5)) (pa_cons (pe_xk (pv 5)) pa_nil))))))))), ?_⟩
  refine ⟨(by show 2 ≤ sizeLine; decide), fun t0 n0 => ⟨t0, _, rfl, .inl (.inl upd_same), rfl, .non, _, rfl, .non, _, rfl, rfl, ?_⟩⟩
  have s0 := same_upd (o := .tup [.non, .non]) n0
  have sP : ∀ {H' : Hp} {ts : List Tab}, Same H H' → PlanT K H v ts → PlanT K H' v ts := fun {H' ts} s ⟨p, tp, xs, h1, h2, h3, h4⟩ => ⟨p, tp, xs, h1, h2.same s, h3, h4.same s⟩
  rcases hT with ⟨ts, hw, hPl, hC⟩ | ⟨es, rfl, hPa, hpos, hC⟩
  · obtain ⟨p, tp, xs, rfl, hp, hx0, hTb⟩ := sP s0 hPl
    rcases hw with rfl | rfl
    · refine ⟨.int 0, rfl, rfl, _, rfl, ?_⟩
      rw [decide_eq_true rfl]
      refine iteT ?_
      refine ⟨.ref p, rfl, ixE (i := 0) hp hx0 ⟨.str t, rfl, .str c, rfl, tp, ts, t, c, rfl, hTb, fun ht j H1 s1 hj => ?_, fun ht hc d H1 s1 hd => ?_, fun ht d hd => ?_⟩⟩
      · rcases hC with ⟨hn, _⟩ | ⟨_, hn, _⟩ | ⟨j2, co, _, hj2, hco, hC⟩
        · exact absurd ht hn
        · exact absurd (List.mem_of_getElem? hj) hn
        · rcases hC with ⟨_, he⟩ | ⟨h1, _⟩
          · have hj3 : (cns ts t)[j2]? = some c := by rw [List.getElem?_map, hj2, ← hco]; rfl
            obtain rfl : j = j2 := (List.getElem?_inj (List.getElem?_eq_some_iff.mp hj).1 (cns_ok hTb.ok ht).2.2.2).mp (hj.trans hj3.symm)
            refine ⟨.non, rfl, rfl, _, rfl, ?_⟩
            rw [decide_eq_true rfl]
            refine iteT ⟨.int j, rfl, (by show 2 ≤ sizeLine; decide), fun r nr => ?_⟩
            rw [he] at q
            exact q r _ ((s0.trans s1).trans (same_upd nr)) (.tup (.inl (.inl upd_same)) (.cons (.str _) (.cons (.int _) .nil)))
          · exact absurd h1 (by decide)
      · rcases hC with ⟨hn, _⟩ | ⟨_, _, he⟩ | ⟨j2, co, _, hj2, hco, _⟩
        · exact absurd ht hn
        · refine ⟨true, ne.te, fun _ a na => ?_, fun z => by cases z⟩
          have hda : d ≠ a := ne_of_none upd_same na
          have sA : Same H (upd (upd H1 d (.xd [(kName, .str c), (kWhat, .str "column")])) a (exk a (.ref C) (some d))) := (s0.trans s1).trans ((same_upd hd).trans (same_upd na))
          have eD : (upd (upd H1 d (.xd [(kName, .str c), (kWhat, .str "column")])) a (exk a (.ref C) (some d))) d = some (.xd [(kName, .str c), (kWhat, .str "column")]) := by rw [upd_ne hda, upd_same]
          refine ⟨.ref a, rfl, rfl, _, rfl, iteF ?_⟩
          refine ⟨.ref a, rfl, (by show 4 ≤ sizeLine; decide), fun tp9 ntp => ?_⟩
          have sT := same_upd (o := .tup [.ref CT, .ty "ValueError", .ty "KeyError", .ty "IndexError"]) ntp
          refine ⟨a, C, d, tp9, _, _, _, _, rfl, sT _ _ upd_same, sT _ _ eD, ne.kx, upd_same, .cons (.own CT) (.cons (.ty _) (.cons (.ty _) (.cons (.ty _) .nil))), ne.k1, _, rfl, iteF ?_⟩
          refine ⟨.ref a, rfl, a, C, d, _, .ty "LookupError", _, _, rfl, sT _ _ upd_same, sT _ _ eD, ne.kx, .ty _, ne.k2, _, rfl, iteF ?_⟩
          refine ⟨.ref a, rfl, a, C, d, _, .str "column", rfl, sT _ _ upd_same, sT _ _ eD, ne.kx, ne.fw, rfl, .ref a, rfl, a, C, d, _, .str c, rfl, sT _ _ upd_same, sT _ _ eD, ne.kx, ne.fn, rfl, (by show 2 ≤ sizeLine; decide), fun r nr => ?_⟩
          rw [he] at q
          exact q r _ (sA.trans (sT.trans (same_upd nr))) (.tup (.inl (.inl upd_same)) (.cons (.str _) (.cons (.str _) .nil)))
        · exact absurd (List.mem_map.mpr ⟨co, List.mem_of_getElem? hj2, hco⟩) hc
      · rcases hC with ⟨_, he⟩ | ⟨hn, _⟩ | ⟨j2, co, hn, _⟩
        · refine ⟨true, ne.te, fun _ a na => ?_, fun z => by cases z⟩
          have hda : d ≠ a := ne_of_none upd_same na
          have sA : Same H (upd (upd (upd H t0 (.tup [.non, .non])) d (.xd [(kName, .str t), (kWhat, .str "table")])) a (exk a (.ref C) (some d))) := (s0).trans ((same_upd hd).trans (same_upd na))
          have eD : (upd (upd (upd H t0 (.tup [.non, .non])) d (.xd [(kName, .str t), (kWhat, .str "table")])) a (exk a (.ref C) (some d))) d = some (.xd [(kName, .str t), (kWhat, .str "table")]) := by rw [upd_ne hda, upd_same]
          refine ⟨.ref a, rfl, rfl, _, rfl, iteF ?_⟩
          refine ⟨.ref a, rfl, (by show 4 ≤ sizeLine; decide), fun tp9 ntp => ?_⟩
          have sT := same_upd (o := .tup [.ref CT, .ty "ValueError", .ty "KeyError", .ty "IndexError"]) ntp
          refine ⟨a, C, d, tp9, _, _, _, _, rfl, sT _ _ upd_same, sT _ _ eD, ne.kx, upd_same, .cons (.own CT) (.cons (.ty _) (.cons (.ty _) (.cons (.ty _) .nil))), ne.k1, _, rfl, iteF ?_⟩
          refine ⟨.ref a, rfl, a, C, d, _, .ty "LookupError", _, _, rfl, sT _ _ upd_same, sT _ _ eD, ne.kx, .ty _, ne.k2, _, rfl, iteF ?_⟩
          refine ⟨.ref a, rfl, a, C, d, _, .str "table", rfl, sT _ _ upd_same, sT _ _ eD, ne.kx, ne.fw, rfl, .ref a, rfl, a, C, d, _, .str t, rfl, sT _ _ upd_same, sT _ _ eD, ne.kx, ne.fn, rfl, (by show 2 ≤ sizeLine; decide), fun r nr => ?_⟩
          rw [he] at q
          exact q r _ (sA.trans (sT.trans (same_upd nr))) (.tup (.inl (.inl upd_same)) (.cons (.str _) (.cons (.str _) .nil)))
        · exact absurd hn ht
        · exact absurd hn ht
    · refine ⟨.int 1, rfl, rfl, _, rfl, iteF ⟨.int 1, rfl, rfl, _, rfl, ?_⟩⟩
      rw [decide_eq_true rfl]
      refine iteT ?_
      refine ⟨.ref p, rfl, ixE (i := 0) hp hx0 ⟨.str t, rfl, .str c, rfl, tp, ts, t, c, rfl, hTb, fun ht j cj H1 s1 hj hcj => ?_, fun ht hc d H1 s1 hd => ?_, fun ht d hd => ?_⟩⟩
      · have hj1 : (cns ts t)[j]? = some c := by rw [List.getElem?_map, hj, ← hcj]; rfl
        rcases hC with ⟨hn, _⟩ | ⟨_, hn, _⟩ | ⟨j2, co, _, hj2, hco, hC⟩
        · exact absurd ht hn
        · exact absurd (List.mem_of_getElem? hj1) hn
        · rcases hC with ⟨h1, _⟩ | ⟨_, he⟩
          · exact absurd h1 (by decide)
          · have hj3 : (cns ts t)[j2]? = some c := by rw [List.getElem?_map, hj2, ← hco]; rfl
            obtain rfl : j = j2 := (List.getElem?_inj (List.getElem?_eq_some_iff.mp hj1).1 (cns_ok hTb.ok ht).2.2.2).mp (hj1.trans hj3.symm)
            rw [hj] at hj2
            cases hj2
            refine ⟨.non, rfl, rfl, _, rfl, ?_⟩
            rw [decide_eq_true rfl]
            refine iteT ⟨wV cj.2, rfl, (by show 2 ≤ sizeLine; decide), fun r nr => ?_⟩
            rw [he] at q
            exact q r _ ((s0.trans s1).trans (same_upd nr)) (.tup (.inl (.inl upd_same)) (.cons (.str _) (.cons (dp_w cj.2) .nil)))
      · rcases hC with ⟨hn, _⟩ | ⟨_, _, he⟩ | ⟨j2, co, _, hj2, hco, _⟩
        · exact absurd ht hn
        · refine ⟨true, ne.te, fun _ a na => ?_, fun z => by cases z⟩
          have hda : d ≠ a := ne_of_none upd_same na
          have sA : Same H (upd (upd H1 d (.xd [(kName, .str c), (kWhat, .str "column")])) a (exk a (.ref C) (some d))) := (s0.trans s1).trans ((same_upd hd).trans (same_upd na))
          have eD : (upd (upd H1 d (.xd [(kName, .str c), (kWhat, .str "column")])) a (exk a (.ref C) (some d))) d = some (.xd [(kName, .str c), (kWhat, .str "column")]) := by rw [upd_ne hda, upd_same]
          refine ⟨.ref a, rfl, rfl, _, rfl, iteF ?_⟩
          refine ⟨.ref a, rfl, (by show 4 ≤ sizeLine; decide), fun tp9 ntp => ?_⟩
          have sT := same_upd (o := .tup [.ref CT, .ty "ValueError", .ty "KeyError", .ty "IndexError"]) ntp
          refine ⟨a, C, d, tp9, _, _, _, _, rfl, sT _ _ upd_same, sT _ _ eD, ne.kx, upd_same, .cons (.own CT) (.cons (.ty _) (.cons (.ty _) (.cons (.ty _) .nil))), ne.k1, _, rfl, iteF ?_⟩
          refine ⟨.ref a, rfl, a, C, d, _, .ty "LookupError", _, _, rfl, sT _ _ upd_same, sT _ _ eD, ne.kx, .ty _, ne.k2, _, rfl, iteF ?_⟩
          refine ⟨.ref a, rfl, a, C, d, _, .str "column", rfl, sT _ _ upd_same, sT _ _ eD, ne.kx, ne.fw, rfl, .ref a, rfl, a, C, d, _, .str c, rfl, sT _ _ upd_same, sT _ _ eD, ne.kx, ne.fn, rfl, (by show 2 ≤ sizeLine; decide), fun r nr => ?_⟩
          rw [he] at q
          exact q r _ (sA.trans (sT.trans (same_upd nr))) (.tup (.inl (.inl upd_same)) (.cons (.str _) (.cons (.str _) .nil)))
        · exact absurd (List.mem_map.mpr ⟨co, List.mem_of_getElem? hj2, hco⟩) hc
      · rcases hC with ⟨_, he⟩ | ⟨hn, _⟩ | ⟨j2, co, hn, _⟩
        · refine ⟨true, ne.te, fun _ a na => ?_, fun z => by cases z⟩
          have hda : d ≠ a := ne_of_none upd_same na
          have sA : Same H (upd (upd (upd H t0 (.tup [.non, .non])) d (.xd [(kName, .str t), (kWhat, .str "table")])) a (exk a (.ref C) (some d))) := (s0).trans ((same_upd hd).trans (same_upd na))
          have eD : (upd (upd (upd H t0 (.tup [.non, .non])) d (.xd [(kName, .str t), (kWhat, .str "table")])) a (exk a (.ref C) (some d))) d = some (.xd [(kName, .str t), (kWhat, .str "table")]) := by rw [upd_ne hda, upd_same]
          refine ⟨.ref a, rfl, rfl, _, rfl, iteF ?_⟩
          refine ⟨.ref a, rfl, (by show 4 ≤ sizeLine; decide), fun tp9 ntp => ?_⟩
          have sT := same_upd (o := .tup [.ref CT, .ty "ValueError", .ty "KeyError", .ty "IndexError"]) ntp
          refine ⟨a, C, d, tp9, _, _, _, _, rfl, sT _ _ upd_same, sT _ _ eD, ne.kx, upd_same, .cons (.own CT) (.cons (.ty _) (.cons (.ty _) (.cons (.ty _) .nil))), ne.k1, _, rfl, iteF ?_⟩
          refine ⟨.ref a, rfl, a, C, d, _, .ty "LookupError", _, _, rfl, sT _ _ upd_same, sT _ _ eD, ne.kx, .ty _, ne.k2, _, rfl, iteF ?_⟩
          refine ⟨.ref a, rfl, a, C, d, _, .str "table", rfl, sT _ _ upd_same, sT _ _ eD, ne.kx, ne.fw, rfl, .ref a, rfl, a, C, d, _, .str t, rfl, sT _ _ upd_same, sT _ _ eD, ne.kx, ne.fn, rfl, (by show 2 ≤ sizeLine; decide), fun r nr => ?_⟩
          rw [he] at q
          exact q r _ (sA.trans (sT.trans (same_upd nr))) (.tup (.inl (.inl upd_same)) (.cons (.str _) (.cons (.str _) .nil)))
        · exact absurd hn ht
        · exact absurd hn ht
  · refine ⟨.int 2, rfl, rfl, _, rfl, iteF ⟨.int 2, rfl, rfl, _, rfl, iteF ?_⟩⟩
    refine ⟨v, rfl, .str t, rfl, v, t, es, rfl, hPa.same s0, hpos, fun i zs r0 H1 hz hz0 hfirst s1 hr0 => ?_, fun hn d hd => ?_⟩
    · rcases hC with ⟨hn, _⟩ | ⟨i2, zs2, hz2, hz20, hun, he⟩
      · exact absurd hz0 (hn zs (List.mem_of_getElem? hz))
      · obtain rfl : i = i2 := Decidable.byContradiction fun h => hun i zs h hz hz0
        rw [hz] at hz2
        cases hz2
        refine ⟨.non, rfl, rfl, _, rfl, ?_⟩
        rw [decide_eq_true rfl]
        refine iteT ⟨.ref r0, rfl, (by show 2 ≤ sizeLine; decide), fun r nr => ?_⟩
        rw [he] at q
        exact q r _ ((s0.trans s1).trans (same_upd nr)) (.tup (.inl (.inl upd_same)) (.cons (.str _) (.cons (.tup (sameT (same_upd nr) hr0) (dp_strs zs)) .nil)))
    · rcases hC with ⟨_, he⟩ | ⟨i2, zs2, hz2, hz20, _, _⟩
      · refine ⟨true, ne.te, fun _ a na => ?_, fun z => by cases z⟩
        have hda : d ≠ a := ne_of_none upd_same na
        have sA : Same H (upd (upd (upd H t0 (.tup [.non, .non])) d (.xd [(kName, .str t), (kWhat, .str "tie")])) a (exk a (.ref C) (some d))) := (s0).trans ((same_upd hd).trans (same_upd na))
        have eD : (upd (upd (upd H t0 (.tup [.non, .non])) d (.xd [(kName, .str t), (kWhat, .str "tie")])) a (exk a (.ref C) (some d))) d = some (.xd [(kName, .str t), (kWhat, .str "tie")]) := by rw [upd_ne hda, upd_same]
        refine ⟨.ref a, rfl, rfl, _, rfl, iteF ?_⟩
        refine ⟨.ref a, rfl, (by show 4 ≤ sizeLine; decide), fun tp9 ntp => ?_⟩
        have sT := same_upd (o := .tup [.ref CT, .ty "ValueError", .ty "KeyError", .ty "IndexError"]) ntp
        refine ⟨a, C, d, tp9, _, _, _, _, rfl, sT _ _ upd_same, sT _ _ eD, ne.kx, upd_same, .cons (.own CT) (.cons (.ty _) (.cons (.ty _) (.cons (.ty _) .nil))), ne.k1, _, rfl, iteF ?_⟩
        refine ⟨.ref a, rfl, a, C, d, _, .ty "LookupError", _, _, rfl, sT _ _ upd_same, sT _ _ eD, ne.kx, .ty _, ne.k2, _, rfl, iteF ?_⟩
        refine ⟨.ref a, rfl, a, C, d, _, .str "tie", rfl, sT _ _ upd_same, sT _ _ eD, ne.kx, ne.fw, rfl, .ref a, rfl, a, C, d, _, .str t, rfl, sT _ _ upd_same, sT _ _ eD, ne.kx, ne.fn, rfl, (by show 2 ≤ sizeLine; decide), fun r nr => ?_⟩
        rw [he] at q
        exact q r _ (sA.trans (sT.trans (same_upd nr))) (.tup (.inl (.inl upd_same)) (.cons (.str _) (.cons (.str _) .nil)))
      · exact absurd hz20 (hn zs2 (List.mem_of_getElem? hz2))
end
end TT

set_option Elab.async false
set_option linter.all false
set_option maxRecDepth 100000
namespace TT
open PySem PySem.Spec PyProof.Rows L2
/-! ### the tables' sizes -/
theorem name_nice {z : Str} (h : NameOk z) (B L : Nat) : Nice B L (.str z) ∧ wt (.str z) ≤ 92 := by
  have l : z.length ≤ 8 := h.top
  exact ⟨fun c hc => by have := h.low c hc; unfold low at this; omega, by show 10 * z.length + 12 ≤ 92; omega⟩
theorem w_nice : ∀ {o : Option Int}, WOk o → Nice 1000000000 8 (wD o) ∧ wt (wD o) ≤ 25 ∧ (wD o).depth = 0
  | none, _ => ⟨trivial, by show 4 ≤ 25; decide, rfl⟩
  | some i, h => ⟨by show i.natAbs ≤ 1000000000; have h' : -1000000000 ≤ i ∧ i ≤ 1000000000 := h; omega, Nat.le_refl _, rfl⟩
theorem col_nice {x : Col} (h1 : NameOk x.1) (h2 : WOk x.2) : Nice 1000000000 8 (colD x) ∧ wt (colD x) ≤ 129 ∧ (colD x).depth ≤ 1 := by
  obtain ⟨a1, a2⟩ := name_nice h1 1000000000 8
  obtain ⟨b1, b2, b3⟩ := w_nice h2
  refine ⟨⟨by show 2 ≤ 8; decide, a1, b1, trivial⟩, ?_, ?_⟩
  · show 6 + (wt (.str x.1) + 3 + (wt (wD x.2) + 3 + 0)) ≤ 129
    omega
  · show max 0 (max (wD x.2).depth 0) + 1 ≤ 1
    rw [b3]; decide
theorem sum_le {α : Type} {f : α → PyData} {n : Nat} : ∀ {l : List α}, (∀ x ∈ l, wt (f x) ≤ n) → wtAll (l.map f) ≤ l.length * (n + 3)
  | [], _ => Nat.zero_le _
  | x :: l, h => by
    have h1 := h x (List.mem_cons_self ..)
    have h2 := sum_le fun y hy => h y (List.mem_cons_of_mem x hy)
    show wt (f x) + 3 + wtAll (l.map f) ≤ (l.length + 1) * (n + 3)
    rw [Nat.add_mul]
    omega
theorem all_nice {α : Type} {f : α → PyData} {B L : Nat} {l : List α} (h : ∀ x ∈ l, Nice B L (f x)) : NiceAll B L (l.map f) := niceAll_iff.mpr fun d hd => by
  obtain ⟨x, hx, rfl⟩ := List.mem_map.mp hd
  exact h x hx
theorem all_depth {α : Type} {f : α → PyData} {n : Nat} {l : List α} (h : ∀ x ∈ l, (f x).depth ≤ n) : PyData.depthAll (l.map f) ≤ n := depthAll_le fun d hd => by
  obtain ⟨x, hx, rfl⟩ := List.mem_map.mp hd
  exact h x hx
theorem tab_nice {n : Nat} {x : Tab} (hn : n ≤ 8) (h1 : NameOk x.1) (h2 : ColsOk n x.2) : Nice 1000000000 8 (tabD x) ∧ wt (tabD x) ≤ 1166 ∧ (tabD x).depth ≤ 3 := by
  obtain ⟨a1, a2⟩ := name_nice h1 1000000000 8
  have cn := fun y hy => col_nice (h2.nm y hy) (h2.w y hy)
  have l8 : x.2.length ≤ 8 := Nat.le_trans h2.top hn
  have ws := sum_le (f := colD) (n := 129) fun y hy => (cn y hy).2.1
  refine ⟨⟨by show 2 ≤ 8; decide, a1, ⟨by rw [List.length_map]; exact l8, all_nice fun y hy => (cn y hy).1⟩, trivial⟩, ?_, ?_⟩
  · show 6 + (wt (.str x.1) + 3 + ((6 + wtAll (x.2.map colD)) + 3 + 0)) ≤ 1166
    have : x.2.length * (129 + 3) ≤ 8 * 132 := Nat.mul_le_mul_right _ l8
    omega
  · have := all_depth (f := colD) (n := 1) fun y hy => (cn y hy).2.2
    show max 0 (max (PyData.depthAll (x.2.map colD) + 1) 0) + 1 ≤ 3
    omega
theorem tabs_nice {n : Nat} {ts : List Tab} (hn : n ≤ 8) (hl : ts.length ≤ 8) (h : TabsOk n ts) : Nice 1000000000 8 (.tuple (ts.map tabD)) ∧ wt (.tuple (ts.map tabD)) ≤ 10000 ∧ (PyData.tuple (ts.map tabD)).depth ≤ 4 := by
  have tn := fun y hy => tab_nice hn (h.nm y hy) (h.cs y hy).1
  have ws := sum_le (f := tabD) (n := 1166) fun y hy => (tn y hy).2.1
  refine ⟨⟨by rw [List.length_map]; exact hl, all_nice fun y hy => (tn y hy).1⟩, ?_, ?_⟩
  · show 6 + wtAll (ts.map tabD) ≤ 10000
    have : ts.length * (1166 + 3) ≤ 8 * 1169 := Nat.mul_le_mul_right _ hl
    omega
  · have := all_depth (f := tabD) (n := 3) fun y hy => (tn y hy).2.2
    show PyData.depthAll (ts.map tabD) + 1 ≤ 4
    omega
theorem mask2 {H : Hp} {s c : Addr} {T : Nat} (S : StAt H s c T) : Mask [s, c] H s c := ⟨fun _ h => h, fun p hp z => by
  simp only [List.mem_cons, List.not_mem_nil, or_false] at hp
  rcases hp with rfl | rfl
  · obtain ⟨t, _, e⟩ := S.ex
    rw [z] at e; cases e
  · obtain ⟨ns, _, _, e⟩ := S.cs
    rw [z] at e; cases e⟩

theorem atI_end {α : Type} {xs : List α} {v : α} (h : xs[xs.length - 1]? = some v) : atI xs (-1) = some v := by
  cases xs with
  | nil => cases h
  | cons a r =>
    have e : (a :: r).getLast (List.cons_ne_nil _ _) = v := by
      rw [← List.getLast?_eq_getElem?, List.getLast?_eq_some_getLast (List.cons_ne_nil a r)] at h
      exact Option.some.inj h
    have e2 : a :: r = (a :: r).dropLast ++ [v] := by
      rw [← e, List.dropLast_concat_getLast]
    rw [e2]
    exact atI_last _ _
theorem pair_nice {a b : Str} (ha : ∀ c ∈ cl a, c < 128) (hb : ∀ c ∈ cl b, c < 128) : Nice (10 ^ 12) 900 (.tuple [.str a, .str b]) ∧ (PyData.tuple [.str a, .str b]).depth < 6 :=
  ⟨⟨by show 2 ≤ 900; decide, ha, hb, trivial⟩, by show max 0 (max 0 0) + 1 < 6; decide⟩
theorem low_of {z : Str} (h : NameOk z) : ∀ c ∈ cl z, c < 128 := fun c hc => by have := h.low c hc; unfold low at this; omega
section
variable {P : Program} {w : World} {K : PySem.W.Frag} {mg : Str → Option Value} {base : Heap}
def spStrange (K : PySem.W.Frag) : Sp := fun vs H Q _ => ∃ (v : V) (sg ot : Str) (ts : List Tab) (es : List (List Str)), vs = [v, .str sg, .str ot] ∧ PlanT K H v ts ∧ PartsAt K H v es ∧ (∀ zs ∈ es, 0 < zs.length) ∧ NameOk sg ∧ NameOk ot ∧ sg ∉ tns ts ∧
  (∀ t ∈ tns ts, ot ∉ cns ts t) ∧ (∀ zs ∈ es, zs[0]? ≠ some sg) ∧ ∀ H', Same H H' → Q (.bl true) H'
theorem PlanT.same {K : PySem.W.Frag} {H H' : Hp} {v : V} {ts : List Tab} (h : PlanT K H v ts) (s : Same H H') : PlanT K H' v ts := by
  obtain ⟨p, tp, xs, h1, h2, h3, h4⟩ := h
  exact ⟨p, tp, xs, h1, h2.same s, h3, h4.same s⟩
abbrev s_law_strange_right : Stmt := topS 21
abbrev N_law_strange_right : List Str := ["plan", "strange", "other", "table", "column", "which"]
theorem sc_law_strange_right : FnScope N_law_strange_right ["plan", "strange", "other"] (defScope s_law_strange_right) := ⟨rfl, rfl, rfl, by decide +kernel, rfl, by decide +kernel, by decide +kernel⟩

set_option maxHeartbeats 4000000 in
theorem ok_strange {f : Addr} {fd : FuncData} (F : Fun K "_law_strange_right" "_law_strange_right" s_law_strange_right f fd) (nb : NB mg) (D_law_same : Def P w K mg base 7 "_law_same" ["found", "due"] (spSame 6 K)) (D_law_told : Def P w K mg base 7 "_law_told" ["which", "plan", "table", "column"] (spTold K)) :
    FnOk P w K mg base CX0 8 f fd ["plan", "strange", "other"] (spStrange K) := by
  refine F.ok sc_law_strange_right (fun vs H Q E h => ?_) (fun cdv A outer sh H vs Q E hr h => ?_)
  · obtain ⟨v, sg, ot, ts, es, rfl, _⟩ := h
    rfl
  obtain ⟨v, sg, ot, ts, es, rfl, hPl, hPa, hpos, oks, oko, hsg, hot, hne, q⟩ := h
  have nd := sc_law_strange_right.nd
  refine ⟨_, (pss_cons (ps_par (i := 3) (j := 4) (by rfl) nd rfl rfl (by decide) rfl rfl (pa_cons (pe_ix ix_seq (pe_ix ix_seq (pe_ix ix_seq (pv 0) pe_int (fun _ _ => rfl)) (pe_un un_neg pe_int) (fun _ _ => rfl)) pe_int (fun _ _ => rfl)) (pa_cons (pe_ix ix_seq (pe_ix ix_seq (pe_ix ix_seq (pe_ix ix_seq (pe_ix ix_seq (pv 0) pe_int (fun _ _ => rfl)) (pe_un un_neg pe_int) (fun _ _ => rfl)) pe_int (fun _ _ => rfl)) pe_int (fun _ _ => rfl)) pe_int (fun _ _ => rfl)) pa_nil)) (by rfl))
      (pss_cons (ps_for PassesOwn.never rfl (pi_range1 (by rfl) nb.b_range (pa_cons pe_int pa_nil)) (pg_name (i := 5) nd rfl (Or.inl rfl))
        (pss_cons (ps_if (pt_not (pt_val (pe_own D_law_same hr (pa_cons (pe_own D_law_told hr (pa_cons (pv 5) (pa_cons (pv 0) (pa_cons (pv 1) (pa_cons (pv 4) pa_nil))))) (pa_cons (pe_tup (pa_cons pe_str (pa_cons (pv 1) pa_nil))) pa_nil)))))
          (pss_one (ps_ret pe_bl))
          pss_nil)
        (pss_cons (ps_if (pt_not (pt_val (pe_own D_law_same hr (pa_cons (pe_own D_law_told hr (pa_cons (pv 5) (pa_cons (pv 0) (pa_cons (pv 1) (pa_cons (pv 2) pa_nil))))) (pa_cons (pe_tup (pa_cons pe_str (pa_cons (pv 1) pa_nil))) pa_nil)))))
          (pss_one (ps_ret pe_bl))
          pss_nil)
        (pss_one (ps_if (pt_not (pt_val (pe_own D_law_same hr (pa_cons (pe_own D_law_told hr (pa_cons (pv 5) (pa_cons (pv 0) (pa_cons (pv 3) (pa_cons (pv 2) pa_nil))))) (pa_cons (pe_tup (pa_cons pe_str (pa_cons (pv 2) pa_nil))) pa_nil)))))
          (pss_one (ps_ret pe_bl))
          pss_nil)))))
      (pss_one (ps_ret (pe_own D_law_same hr (pa_cons (pe_own D_law_told hr (pa_cons pe_int (pa_cons (pv 0) (pa_cons (pv 1) (pa_cons (pv 4) pa_nil))))) (pa_cons (pe_tup (pa_cons pe_str (pa_cons (pv 1) pa_nil))) pa_nil))))))), ?_⟩
  obtain ⟨p, tp, xs0, rfl, hp, hx0, hTb⟩ := id hPl
  obtain ⟨xs, hTS, hTA, lx⟩ := hTb.parts
  have l0 := hTb.l0
  obtain ⟨xl, hxl⟩ : ∃ xl, xs[xs.length - 1]? = some xl := ⟨_, List.getElem?_eq_getElem (show xs.length - 1 < xs.length by omega)⟩
  obtain ⟨tb, qq, pc, ys, htb, rfl, hq1, hq2, hq3⟩ := tab_at hTA hxl
  have hmt : tb ∈ ts := List.mem_of_getElem? htb
  have htn : tb.1 ∈ tns ts := List.mem_map.mpr ⟨tb, hmt, rfl⟩
  obtain ⟨okc, lc0⟩ := hTb.ok.cs tb hmt
  obtain ⟨cc, hcc⟩ : ∃ y, tb.2[0]? = some y := ⟨_, List.getElem?_eq_getElem lc0⟩
  obtain ⟨y0, hy0, _⟩ := dpAll_at (i := 0) hq3 (show (tb.2.map colD)[0]? = some (colD cc) by rw [List.getElem?_map, hcc]; rfl)
  obtain ⟨co, qc, yc, hco, rfl, hqc⟩ := col_at hq3 hy0
  refine ⟨.ref p, rfl, ixE (i := 0) hp hx0 ⟨_, rfl, .inr (.inl ⟨tp, xs, _, .ref qq, rfl, rfl, hTS, atI_end hxl, .inr (.inl ⟨qq, _, 0, .str tb.1, rfl, rfl, hq1, atI_nat (j := 0) rfl,
    .ref p, rfl, ixE (i := 0) hp hx0 ⟨_, rfl, .inr (.inl ⟨tp, xs, _, .ref qq, rfl, rfl, hTS, atI_end hxl, .inr (.inl ⟨qq, _, 1, .ref pc, rfl, rfl, hq1, atI_nat (j := 1) rfl, .inr (.inl ⟨pc, ys, 0, .ref qc, rfl, rfl, hq2, atI_nat (j := 0) hy0,
    .inr (.inl ⟨qc, _, 0, .str co.1, rfl, rfl, hqc, atI_nat (j := 0) rfl, _, _, rfl, ?_⟩)⟩)⟩)⟩)⟩⟩)⟩)⟩⟩
  refine ⟨2, rfl, by decide, by decide, ?_⟩
  refine for_range (lo := 0) (n := (2 : Int).toNat) (fun i σ H' => (∃ y5, σ = [some (.ref p), some (.str sg), some (.str ot), some (.str tb.1), some (.str co.1), y5]) ∧ Same H H') ⟨⟨none, rfl⟩, Same.refl _⟩ (fun i σ H1 hi hP => ?_) (fun σ H1 hP => ?_)
  · obtain ⟨⟨y5, rfl⟩, s1⟩ := hP
    have hi : i < 2 := hi
    have hw : (0 + (i : Int)) = 0 ∨ (0 + (i : Int)) = 1 := by omega
    refine ⟨_, rfl, .ref p, rfl, .str sg, rfl, .str co.1, rfl, _, _, sg, co.1, _, rfl, .inl ⟨ts, hw, hPl.same s1, .inl ⟨hsg, rfl⟩⟩, fun r H2 s2 hr2 => ?_⟩
    obtain ⟨n1, n2⟩ := pair_nice (a := "table") (b := sg) (by decide +kernel) (low_of oks)
    refine ⟨.str sg, rfl, (by show 2 ≤ sizeLine; decide), fun r2 nr2 => ⟨.ref r, .ref r2, _, rfl, dp_same (same_upd nr2) hr2, .tup (.inl (.inl upd_same)) (.cons (.str _) (.cons (.str _) .nil)), n2, n1, fun H3 s3 => ⟨_, rfl, iteF ?_⟩⟩⟩
    have s13 := s1.trans (s2.trans ((same_upd nr2).trans s3))
    refine ⟨_, rfl, .ref p, rfl, .str sg, rfl, .str ot, rfl, _, _, sg, ot, _, rfl, .inl ⟨ts, hw, hPl.same s13, .inl ⟨hsg, rfl⟩⟩, fun r3 H4 s4 hr4 => ?_⟩
    refine ⟨.str sg, rfl, (by show 2 ≤ sizeLine; decide), fun r4 nr4 => ⟨.ref r3, .ref r4, _, rfl, dp_same (same_upd nr4) hr4, .tup (.inl (.inl upd_same)) (.cons (.str _) (.cons (.str _) .nil)), n2, n1, fun H5 s5 => ⟨_, rfl, iteF ?_⟩⟩⟩
    have s15 := s13.trans (s4.trans ((same_upd nr4).trans s5))
    obtain ⟨m1, m2⟩ := pair_nice (a := "column") (b := ot) (by decide +kernel) (low_of oko)
    refine ⟨_, rfl, .ref p, rfl, .str tb.1, rfl, .str ot, rfl, _, _, tb.1, ot, _, rfl, .inl ⟨ts, hw, hPl.same s15, .inr (.inl ⟨htn, hot _ htn, rfl⟩)⟩, fun r5 H6 s6 hr6 => ?_⟩
    refine ⟨.str ot, rfl, (by show 2 ≤ sizeLine; decide), fun r6 nr6 => ⟨.ref r5, .ref r6, _, rfl, dp_same (same_upd nr6) hr6, .tup (.inl (.inl upd_same)) (.cons (.str _) (.cons (.str _) .nil)), m2, m1, fun H7 s7 => ⟨_, rfl, iteF ?_⟩⟩⟩
    exact ⟨⟨_, rfl⟩, s15.trans (s6.trans ((same_upd nr6).trans s7))⟩
  · obtain ⟨⟨y5, rfl⟩, s1⟩ := hP
    obtain ⟨n1, n2⟩ := pair_nice (a := "tie") (b := sg) (by decide +kernel) (low_of oks)
    refine ⟨.ref p, rfl, .str sg, rfl, .str co.1, rfl, 2, _, sg, co.1, _, rfl, .inr ⟨es, rfl, hPa.same s1, hpos, .inl ⟨hne, rfl⟩⟩, fun r H2 s2 hr2 => ?_⟩
    refine ⟨.str sg, rfl, (by show 2 ≤ sizeLine; decide), fun r2 nr2 => ⟨.ref r, .ref r2, _, rfl, dp_same (same_upd nr2) hr2, .tup (.inl (.inl upd_same)) (.cons (.str _) (.cons (.str _) .nil)), n2, n1, fun H3 s3 => ?_⟩⟩
    exact q _ (s1.trans (s2.trans ((same_upd nr2).trans s3)))
end
end TT

set_option Elab.async false
set_option linter.all false
set_option maxRecDepth 100000
namespace TT
open PySem PySem.Spec PyProof.Rows L2
def s8 (c : Nat) : Str := ⟨#[c, c, c, c, c, c, c, c]⟩
section
variable {X : Cx}
theorem op_str8 : OpR X (binaryOp .Mult) (fun x y H Q => ∃ c : Nat, x = .str ⟨#[c]⟩ ∧ y = .int 8 ∧ Q (.str (s8 c)) H) := by
  intro pins s σ H x y v u Q I rx ry h
  obtain ⟨c, rfl, rfl, q⟩ := h
  obtain ⟨t, rfl⟩ := rx
  obtain ⟨t', rfl⟩ := ry
  have h1 : (((8 : Int) == 1) || (Str.length ⟨#[c]⟩ == 0)) = false := rfl
  refine P.mul_str (by decide) (fun _ _ => ?_) (fun _ _ => ?_) ?_
  · show ¬ ((1 : Int) > (2 ^ 63 - 1) / 8)
    decide
  · show Builtin.Str.tooLong (1 * 8) = false
    decide
  · rw [if_neg (by decide), h1, if_neg (by decide)]
    exact ⟨by show 8 ≤ sizeLine; decide, .str (s8 c), H, I.tok _, ⟨_, rfl⟩, q⟩
end
theorem s8_ok {c : Nat} (h : low c) : NameOk (s8 c) := ⟨by show 0 < 8; decide, by show 8 ≤ 8; decide, fun x hx => by
  have : x ∈ [c, c, c, c, c, c, c, c] := hx
  simp only [List.mem_cons, List.not_mem_nil, or_false, or_self] at this
  rw [this]; exact h⟩
/-- a plan as the law lays it: its tables, its ties as texts -/
structure PlanW (K : PySem.W.Frag) (H : Hp) (p tp ep : Addr) (ts : List Tab) (es : List (List Str)) : Prop where
  pl : ∃ e0, SqT K H p [.ref tp, .ref ep, .ref e0] ∧ SqT K H e0 []
  tb : Tabs K H tp ts
  ti : Dp K H (.ref ep) (.tuple (es.map fun zs => PyData.tuple (zs.map PyData.str)))
  l7 : ∀ zs ∈ es, zs.length = 7
  ok : ∀ zs ∈ es, ∀ z ∈ zs, NameOk z
  le : es.length ≤ 10
  un : (es.map fun zs => zs.headD Str.empty).Nodup
theorem PlanW.same {K : PySem.W.Frag} {H H' : Hp} {p tp ep : Addr} {ts : List Tab} {es : List (List Str)} (h : PlanW K H p tp ep ts es) (s : Same H H') : PlanW K H' p tp ep ts es :=
  ⟨let ⟨e0, h1, h2⟩ := h.pl; ⟨e0, sameT s h1, sameT s h2⟩, h.tb.same s, dp_same s h.ti, h.l7, h.ok, h.le, h.un⟩
theorem PlanW.planT {K : PySem.W.Frag} {H : Hp} {p tp ep : Addr} {ts : List Tab} {es : List (List Str)} (h : PlanW K H p tp ep ts es) : PlanT K H (.ref p) ts := by
  obtain ⟨e0, h1, _⟩ := h.pl
  exact ⟨p, tp, _, rfl, .inr h1, rfl, h.tb⟩
/-- the ties, taken apart -/
theorem PlanW.ties {K : PySem.W.Frag} {H : Hp} {p tp ep : Addr} {ts : List Tab} {es : List (List Str)} (h : PlanW K H p tp ep ts es) :
    ∃ ys, SqT K H ep ys ∧ ys.length = es.length ∧ ∀ (i : Nat) (zs : List Str), es[i]? = some zs → ∃ r : Addr, ys[i]? = some (V.ref r) ∧ SqT K H r (zs.map V.str) := by
  cases h.ti with
  | tup h1 h2 =>
    refine ⟨_, h1, by rw [dpAll_len h2, List.length_map], fun i zs hz => ?_⟩
    obtain ⟨v, hv, hd⟩ := dpAll_at (i := i) h2 (show (es.map fun zs => PyData.tuple (zs.map PyData.str))[i]? = some (.tuple (zs.map PyData.str)) by rw [List.getElem?_map, hz]; rfl)
    cases hd with
    | tup g1 g2 =>
      rename_i r us
      obtain ⟨zs', e1, e2⟩ : ∃ zs' : List Str, zs.map PyData.str = zs'.map PyData.str ∧ us = zs'.map V.str := by
        have key : ∀ {us : List V} {l : List Str}, DpAll K H us (l.map PyData.str) → us = l.map V.str := by
          intro us l
          induction l generalizing us with
          | nil => intro h; cases h; rfl
          | cons a l ih =>
            intro h
            cases h with
            | cons h1 h2 =>
              cases h1
              rw [ih h2]; rfl
        exact ⟨zs, rfl, key g2⟩
      have e3 : zs = zs' := by
        have inj : ∀ {a b : List Str}, a.map PyData.str = b.map PyData.str → a = b := by
          intro a
          induction a with
          | nil => intro b h; cases b with
            | nil => rfl
            | cons _ _ => cases h
          | cons x a ih => intro b h; cases b with
            | nil => cases h
            | cons y b =>
              rw [List.map_cons, List.map_cons] at h
              injection h with h1 h2
              injection h1 with h1
              rw [h1, ih h2]
        exact inj e1
      rw [e2, ← e3] at g1
      exact ⟨r, hv, g1⟩
theorem PlanW.partsAt {K : PySem.W.Frag} {H : Hp} {p tp ep : Addr} {ts : List Tab} {es : List (List Str)} (h : PlanW K H p tp ep ts es) : PartsAt K H (.ref p) es := by
  obtain ⟨e0, h1, _⟩ := h.pl
  obtain ⟨ys, h2, h3, h4⟩ := h.ties
  exact ⟨p, ep, _, ys, rfl, .inr h1, rfl, .inr h2, h3, fun i zs hz => let ⟨r, a, b⟩ := h4 i zs hz; ⟨r, a, .inr b⟩⟩
end TT

set_option Elab.async false
set_option linter.all false
set_option maxRecDepth 100000
namespace TT
open PySem PySem.Spec PyProof.Rows L2
theorem kinds_ok : (∀ z ∈ kindsA, NameOk z) ∧ (∀ z ∈ kindsK, NameOk z) ∧ ∀ z ∈ whens, NameOk z := by
  have h1 : kindsA.all (fun z => nameB (.str z)) = true := by decide +kernel
  have h2 : kindsK.all (fun z => nameB (.str z)) = true := by decide +kernel
  have h3 : whens.all (fun z => nameB (.str z)) = true := by decide +kernel
  exact ⟨fun z hz => nameB_ok (List.all_eq_true.mp h1 z hz), fun z hz => nameB_ok (List.all_eq_true.mp h2 z hz), fun z hz => nameB_ok (List.all_eq_true.mp h3 z hz)⟩
theorem wys_ok {ts : List Tab} {b c : PyData} : ∀ z ∈ wys ts b c, NameOk z := fun z hz => by
  unfold wys at hz
  split at hz
  · exact kinds_ok.2.1 z hz
  · exact kinds_ok.1 z hz
theorem tie_names {ts : List Tab} (ok : TabsOk 5 ts) {e : PyData} (h : tieB ts e = true) : ∃ zs : List Str, e = .tuple (zs.map PyData.str) ∧ zs.length = 7 ∧ ∀ z ∈ zs, NameOk z := by
  cases e with
  | tuple ds =>
    have h7 : ds.length = 7 := Decidable.byContradiction fun e => by
      have h' : tieP ts ds = true := h
      rw [tieP_len ts e] at h'; cases h'
    obtain ⟨a, b, c, o, g, u, w, rfl⟩ := seven_of h7
    have h' : (nameB a && (inS (tns ts) b && (inS (tns ts) o && (inS (cns ts (strOf b)) c && (inS (wys ts b c) g && (inS (wys ts b c) u && inS whens w)))))) = true := h
    simp only [Bool.and_eq_true] at h'
    obtain ⟨ha, hb, ho, hc, hg, hu, hw⟩ := h'
    obtain ⟨n, rfl⟩ : ∃ n, a = .str n := by cases a <;> first | exact ⟨_, rfl⟩ | cases ha
    obtain ⟨t, rfl, ht⟩ := inS_str hb
    obtain ⟨o', rfl, mo⟩ := inS_str ho
    obtain ⟨c', rfl, mc⟩ := inS_str hc
    obtain ⟨g', rfl, mg'⟩ := inS_str hg
    obtain ⟨u', rfl, mu⟩ := inS_str hu
    obtain ⟨w', rfl, mw⟩ := inS_str hw
    refine ⟨[n, t, c', o', g', u', w'], rfl, rfl, fun z hz => ?_⟩
    simp only [List.mem_cons, List.not_mem_nil, or_false] at hz
    rcases hz with rfl | rfl | rfl | rfl | rfl | rfl | rfl
    · exact nameB_ok ha
    · exact tns_ok ok _ ht
    · exact (cns_ok ok ht).1 _ mc
    · exact tns_ok ok _ mo
    · exact wys_ok _ mg'
    · exact wys_ok _ mu
    · exact kinds_ok.2.2 _ mw
  | _ => cases h
theorem tie_nice {ts : List Tab} (ok : TabsOk 5 ts) {e : PyData} (h : tieB ts e = true) : Nice 1000000000 11 e ∧ wt e ≤ 700 ∧ e.depth ≤ 1 ∧ NameOk (strOf (fstD e)) := by
  obtain ⟨zs, rfl, l7, hz⟩ := tie_names ok h
  have nn := fun z (h : z ∈ zs) => name_nice (hz z h) 1000000000 11
  have ws := sum_le (f := PyData.str) (n := 92) fun y hy => (nn y hy).2
  refine ⟨⟨by rw [List.length_map]; omega, all_nice fun y hy => (nn y hy).1⟩, ?_, ?_, ?_⟩
  · show 6 + wtAll (zs.map PyData.str) ≤ 700
    rw [l7] at ws
    omega
  · have := all_depth (f := PyData.str) (l := zs) (n := 0) fun y hy => Nat.zero_le _
    show PyData.depthAll (zs.map PyData.str) + 1 ≤ 1
    omega
  · cases zs with
    | nil => cases l7
    | cons z r => exact hz z (List.mem_cons_self ..)
theorem wtAll_le {n : Nat} : ∀ {l : List PyData}, (∀ x ∈ l, wt x ≤ n) → wtAll l ≤ l.length * (n + 3)
  | [], _ => Nat.zero_le _
  | x :: l, h => by
    have h1 := h x (List.mem_cons_self ..)
    have h2 := wtAll_le fun y hy => h y (List.mem_cons_of_mem x hy)
    show wt x + 3 + wtAll l ≤ (l.length + 1) * (n + 3)
    rw [Nat.add_mul]
    omega
theorem ties_nice {ts : List Tab} (ok : TabsOk 5 ts) {es : List PyData} (h : ∀ e ∈ es, tieB ts e = true) (l : es.length ≤ 11) : Nice 1000000000 11 (.tuple es) ∧ wt (.tuple es) ≤ 7800 ∧ (PyData.tuple es).depth ≤ 2 := by
  have tn := fun y hy => tie_nice ok (h y hy)
  have ws := wtAll_le (n := 700) fun y hy => (tn y hy).2.1
  refine ⟨⟨l, niceAll_iff.mpr fun y hy => (tn y hy).1⟩, ?_, ?_⟩
  · show 6 + wtAll es ≤ 7800
    have : es.length * (700 + 3) ≤ 11 * 703 := Nat.mul_le_mul_right _ l
    omega
  · have := depthAll_le (n := 1) fun y hy => (tn y hy).2.2.1
    show PyData.depthAll es + 1 ≤ 2
    omega

theorem cutV_lo (xs : List V) (a : Nat) : cutV xs none (some (a : Int)) = xs.take a := by
  unfold cutV
  rw [HT.sIx_none, HT.sIx_nat, List.drop_zero, Nat.sub_zero]
  by_cases h : a ≤ xs.length
  · rw [Nat.min_eq_left h]
  · rw [Nat.min_eq_right (by omega), List.take_of_length_le (Nat.le_refl _), List.take_of_length_le (by omega)]
theorem ties_texts {ts : List Tab} (ok : TabsOk 5 ts) : ∀ {es : List PyData}, (∀ e ∈ es, tieB ts e = true) → ∃ zss : List (List Str), es = zss.map (fun zs => PyData.tuple (zs.map PyData.str)) ∧ (∀ zs ∈ zss, zs.length = 7) ∧ (∀ zs ∈ zss, ∀ z ∈ zs, NameOk z) ∧ zss.map (fun zs => zs.headD Str.empty) = namesOf es
  | [], _ => ⟨[], rfl, fun _ h => absurd h List.not_mem_nil, fun _ h => absurd h List.not_mem_nil, rfl⟩
  | e :: es, h => by
    obtain ⟨zss, h1, h2, h3, h4⟩ := ties_texts ok fun x hx => h x (List.mem_cons_of_mem _ hx)
    obtain ⟨zs, e1, e2, e3⟩ := tie_names ok (h e (List.mem_cons_self ..))
    refine ⟨zs :: zss, by rw [e1, h1]; rfl, fun x hx => ?_, fun x hx => ?_, ?_⟩
    · rcases List.mem_cons.mp hx with rfl | hx
      · exact e2
      · exact h2 x hx
    · rcases List.mem_cons.mp hx with rfl | hx
      · exact e3
      · exact h3 x hx
    · unfold namesOf at h4 ⊢
      rw [List.map_cons, List.map_cons, h4, e1]
      cases zs with
      | nil => cases e2
      | cons z r => rfl
theorem dp_flat {K : PySem.W.Frag} {H : Hp} {D r : Addr} {us : List V} {a : Str} {o : Option Int} (e : H D = some (.lst us)) (h : Dp K H (.ref r) (.tuple [.str a, wD o])) : Dp K (msk [D] H) (.ref r) (.tuple [.str a, wD o]) := by
  cases h with
  | tup h1 h2 =>
    have ne : ∀ {u : HO}, H r = some u → u ≠ .lst us → r ∉ [D] := fun {u} q n z => by
      rw [List.mem_singleton.mp z, e] at q
      exact n (Option.some.inj q).symm
    cases h2 with
    | cons h3 h4 =>
      cases h4 with
      | cons h5 h6 =>
        cases h6
        cases h3
        rename_i w0
        refine .tup (xs := [.str a, w0]) ?_ (.cons (.str a) (.cons ?_ .nil))
        · rcases h1 with (h1 | ⟨o', h1⟩) | h1
          · exact .inl (.inl (msk_at h1 (ne h1 (fun z => nomatch z))))
          · exact .inl (.inr ⟨o', msk_at h1 (ne h1 (fun z => nomatch z))⟩)
          · exact .inr h1
        · cases o with
          | none => cases h5; exact .non
          | some i => cases h5; exact .int i
theorem col_at2 {K : PySem.W.Frag} {H : Hp} {ys : List V} {cs : List Col} {i : Nat} {x : V} (h : DpAll K H ys (cs.map colD)) (hx : ys[i]? = some x) : ∃ (co : Col) (q : Addr), cs[i]? = some co ∧ x = .ref q ∧ SqT K H q [.str co.1, wV co.2] := by
  obtain ⟨dd, h1, h2⟩ := dpAll_get i h hx
  rw [List.getElem?_map] at h1
  obtain ⟨co, hco, rfl⟩ := Option.map_eq_some_iff.mp h1
  cases h2 with
  | tup g1 g2 =>
    cases g2 with
    | cons g3 g4 =>
      cases g4 with
      | cons g5 g6 =>
        cases g6
        cases g3
        refine ⟨co, _, hco, rfl, ?_⟩
        cases hc : co.2 with
        | none => rw [hc] at g5; cases g5; exact g1
        | some i => rw [hc] at g5; cases g5; exact g1
abbrev tieD (zs : List Str) : PyData := .tuple (zs.map PyData.str)
theorem text_nice {zs : List Str} (l : zs.length = 7) (ok : ∀ z ∈ zs, NameOk z) : Nice (10 ^ 12) 900 (tieD zs) ∧ (tieD zs).depth ≤ 1 := by
  refine ⟨⟨by rw [List.length_map, l]; decide, all_nice fun y hy => low_of (ok y hy)⟩, ?_⟩
  have := all_depth (f := PyData.str) (l := zs) (n := 0) fun y hy => Nat.zero_le _
  show PyData.depthAll (zs.map PyData.str) + 1 ≤ 1
  omega
theorem texts_nice {es : List (List Str)} (l7 : ∀ zs ∈ es, zs.length = 7) (ok : ∀ zs ∈ es, ∀ z ∈ zs, NameOk z) (le : es.length ≤ 900) : Nice (10 ^ 12) 900 (.list (es.map tieD)) ∧ (PyData.list (es.map tieD)).depth < 6 := by
  refine ⟨⟨by rw [List.length_map]; exact le, all_nice fun y hy => (text_nice (l7 y hy) (ok y hy)).1⟩, ?_⟩
  have := all_depth (f := tieD) (l := es) (n := 1) fun y hy => (text_nice (l7 y hy) (ok y hy)).2
  show PyData.depthAll (es.map tieD) + 1 < 6
  omega
theorem PlanW.dp {K : PySem.W.Frag} {H : Hp} {p tp ep : Addr} {ts : List Tab} {es : List (List Str)} (h : PlanW K H p tp ep ts es) : Dp K H (.ref p) (.tuple [.tuple (ts.map tabD), .tuple (es.map fun zs => PyData.tuple (zs.map PyData.str)), .tuple []]) := by
  obtain ⟨e0, h1, h2⟩ := h.pl
  exact .tup h1 (.cons h.tb.dp (.cons h.ti (.cons (.tup h2 .nil) .nil)))
def rListOf (K : PySem.W.Frag) : List V → Hp → VK → Prop := fun xs H Q => ∃ p ys, xs = [.ref p] ∧ (SqL K H p ys ∨ SqT K H p ys) ∧ ∀ l, H l = none → Q (.ref l) (upd H l (.lst ys))
section
variable {P : Program} {w : World} {K : PySem.W.Frag} {mg : Str → Option Value} {base : Heap}
def spLaw (K : PySem.W.Frag) : Sp := fun vs H Q _ => ∃ (a : Addr) (ns : List Int), vs = [.ref a] ∧ SqL K H a (ns.map V.int) ∧ ∀ H', Q (.bl true) H'
abbrev s_law : Stmt := topS 22
abbrev N_law : List Str := ["script", "state", "tables", "plan", "kept", "taken", "table", "columns", "strange", "place", "column", "fallback", "told", "due", "found", "listed", "tie", "handed", "name", "letter", "which"]
theorem sc_law : FnScope N_law ["script"] (defScope s_law) := ⟨rfl, rfl, rfl, by decide +kernel, rfl, by decide +kernel, by decide +kernel⟩

set_option maxHeartbeats 8000000 in
theorem ok_law {f : Addr} {fd : FuncData} (F : Fun K "law" "law" s_law f fd) (nb : NB mg) (D_law_begin : Def P w K mg base 1 "_law_begin" ["script"] (spBegin K)) (D_law_take : Def P w K mg base 1 "_law_take" ["state", "many"] spTake) (D_law_some : Def P w K mg base 2 "_law_some" ["state", "things"] (spSome K)) (D_law_tables : Def P w K mg base 3 "_law_tables" ["state", "many", "wide"] (spTables K))
    (D_law_ties : Def P w K mg base 3 "_law_ties" ["state", "tables", "many"] (spTies K)) (D_ties_on : Def P w K mg base 1 "ties_on" ["plan", "table"] (spTiesOn K)) (D_law_same : Def P w K mg base 7 "_law_same" ["found", "due"] (spSame 6 K)) (D_law_told : Def P w K mg base 7 "_law_told" ["which", "plan", "table", "column"] (spTold K))
    (D_law_strange_right : Def P w K mg base 8 "_law_strange_right" ["plan", "strange", "other"] (spStrange K)) : FnG P w K mg base CX0 9 f fd ["script"] (spLaw K) := by
  refine okG F sc_law (fun vs H Q E h => ?_) (fun cdv A outer sh H vs Q E hr hg h => ?_)
  · obtain ⟨a, ns, rfl, _⟩ := h
    rfl
  · obtain ⟨a, ns, rfl, hS, q⟩ := h
    have nd := sc_law.nd
    have hu := hu_of hr
    refine ⟨_, (pss_cons (ps_set (i := 1) nd rfl (Or.inl rfl) (pe_own D_law_begin hr (pa_cons (pv 0) pa_nil)))
      (pss_cons (ps_set (i := 2) nd rfl (Or.inl rfl) (pe_own D_law_tables hr (pa_cons (pv 1) (pa_cons (pe_op op_add pe_int (pe_own D_law_take hr (pa_cons (pv 1) (pa_cons pe_int pa_nil)))) (pa_cons pe_int pa_nil)))))
      (pss_cons (ps_set (i := 3) nd rfl (Or.inr rfl) (pe_tup (pa_cons (pv 2) (pa_cons (pe_own D_law_ties hr (pa_cons (pv 1) (pa_cons (pv 2) (pa_cons (pe_own D_law_take hr (pa_cons (pv 1) (pa_cons pe_int pa_nil))) pa_nil)))) (pa_cons (pe_tup pa_nil) pa_nil)))))
      (pss_cons (ps_asg (pe_tup (pa_cons (pe_callB (call_repr_d hg hr) (by rfl) nb.b_repr (by decide +kernel) (pa_cons (pv 3) pa_nil)) (pa_cons (pe_op op_cat (pe_lc (own := [("table", 6)]) (g := (gName 6)) (tt := tYes) rfl nd (pi_tup (pv 2)) (blkOk_by (N := N_law) (sc := defScope s_law) (by decide +kernel)) (fun _ _ _ _ _ => (pg_name (i := 6) nd rfl (Or.inl rfl))) (fun _ _ _ _ _ => pts_nil) (fun _ _ _ _ _ => (pe_ix (r := rIxT K) ix_tup (pv 6) pe_int (fun _ _ => rfl)))) (pe_lc (own := [("tie", 16)]) (g := (gName 16)) (tt := tYes) rfl nd (pi_tup (pe_ix ix_tup (pv 3) pe_int (fun _ _ => rfl))) (blkOk_by (N := N_law) (sc := defScope s_law) (by decide +kernel)) (fun _ _ _ _ _ => (pg_name (i := 16) nd rfl (Or.inl rfl))) (fun _ _ _ _ _ => pts_nil) (fun _ _ _ _ _ => (pe_ix (r := rIxT K) ix_tup (pv 16) pe_int (fun _ _ => rfl))))) pa_nil))) (pg_tup rfl (pgs_cons (pg_name (i := 4) nd rfl (Or.inl rfl)) (pgs_cons (pg_name (i := 5) nd rfl (Or.inr rfl)) pgs_nil))))
      (pss_cons (ps_for PassesOwn.never rfl (pi_tup (pv 2)) (pg_tup rfl (pgs_cons (pg_name (i := 6) nd rfl (Or.inr rfl)) (pgs_cons (pg_name (i := 7) nd rfl (Or.inl rfl)) pgs_nil)))
        (pss_one (ps_expr (pe_bm PySem.F.plainAttrs_list PySem.F.slot_list_extend PySem.F.type_list_extend mt_extend (pv 5) (pa_cons (pe_lc (own := [("column", 10), ("fallback", 11)]) (g := (gTup _ 2 (gCons (gName 10) (gCons (gName 11) gNil)))) (tt := tYes) rfl nd (pi_tup (pv 7)) (blkOk_by (N := N_law) (sc := defScope s_law) (by decide +kernel)) (fun _ _ _ _ _ => (pg_tup rfl (pgs_cons (pg_name (i := 10) nd rfl (Or.inl rfl)) (pgs_cons (pg_name (i := 11) nd rfl (Or.inl rfl)) pgs_nil)))) (fun _ _ _ _ _ => pts_nil) (fun _ _ _ _ _ => (pv 10))) pa_nil)))))
      (pss_cons (ps_set (i := 8) nd rfl (Or.inl rfl) (pe_slice sl_list (pe_lc (own := [("letter", 19)]) (g := (gName 19)) rfl nd (pi_str pe_str) (blkOk_by (N := N_law) (sc := defScope s_law) (by decide +kernel)) (fun _ _ _ _ _ => (pg_name (i := 19) nd rfl (Or.inl rfl))) (fun _ _ _ _ _ => (pts_one (pt_cmpR (r := rIn K true) op_notIn_seq (pe_op op_str8 (pv 19) pe_int) (pv 5) (by rfl)))) (fun _ _ _ _ _ => (pe_op op_str8 (pv 19) pe_int))) po_none (po_some pe_int)))
      (pss_cons (ps_for PassesOwn.never rfl (pi_tup (pv 2)) (pg_tup rfl (pgs_cons (pg_name (i := 6) nd rfl (Or.inr rfl)) (pgs_cons (pg_name (i := 7) nd rfl (Or.inl rfl)) pgs_nil)))
        (pss_cons (ps_for PassesOwn.never rfl (pi_enumT (by rfl) nb.b_enumerate (pa_cons (pv 7) pa_nil)) (pg_tup rfl (pgs_cons (pg_name (i := 9) nd rfl (Or.inl rfl)) (pgs_cons (pg_tup rfl (pgs_cons (pg_name (i := 10) nd rfl (Or.inr rfl)) (pgs_cons (pg_name (i := 11) nd rfl (Or.inl rfl)) pgs_nil))) pgs_nil)))
          (pss_cons (ps_setLc (i := 12) (own := [("which", 20)]) (g := (gName 20)) (tt := tYes) rfl nd rfl rfl (sw_true rfl rfl rfl (by decide +kernel)) (pi_range1 (by rfl) nb.b_range (pa_cons pe_int pa_nil)) (blkOk_by (N := N_law) (sc := defScope s_law) (by decide +kernel)) (fun _ _ _ _ _ => (pg_name (i := 20) nd rfl (Or.inl rfl))) (fun _ _ _ _ _ => pts_nil) (fun _ _ _ _ _ => (pe_own D_law_told hr (pa_cons (pv 20) (pa_cons (pv 3) (pa_cons (pv 6) (pa_cons (pv 10) pa_nil)))))))
          (pss_one (ps_if (pt_not (pt_val (pe_own D_law_same hr (pa_cons (pv 12) (pa_cons (pe_lst (pa_cons (pe_tup (pa_cons pe_str (pa_cons (pv 9) pa_nil))) (pa_cons (pe_tup (pa_cons pe_str (pa_cons (pv 11) pa_nil))) pa_nil))) pa_nil)))))
            (pss_one (ps_ret pe_bl))
            pss_nil))))
        (pss_cons (ps_setLc (i := 13) (own := [("tie", 16)]) (g := (gName 16)) rfl nd rfl rfl (sw_true rfl rfl rfl (by decide +kernel)) (pi_tup (pe_ix ix_tup (pv 3) pe_int (fun _ _ => rfl))) (blkOk_by (N := N_law) (sc := defScope s_law) (by decide +kernel)) (fun _ _ _ _ _ => (pg_name (i := 16) nd rfl (Or.inl rfl))) (fun _ _ _ _ _ => (pts_one (pt_cmpR op_eq (pe_ix (r := rIxT K) ix_tup (pv 16) pe_int (fun _ _ => rfl)) (pv 6) (nomark _)))) (fun _ _ _ _ _ => (pv 16)))
        (pss_cons (ps_set (i := 14) nd rfl (Or.inl rfl) (pe_own D_ties_on hr (pa_cons (pv 3) (pa_cons (pv 6) pa_nil))))
        (pss_cons (ps_if (pt_not (pt_val (pe_own D_law_same hr (pa_cons (pv 14) (pa_cons (pv 13) pa_nil)))))
          (pss_one (ps_ret pe_bl))
          pss_nil)
        (pss_cons (ps_expr (pe_bm PySem.F.plainAttrs_list PySem.F.slot_list_append PySem.F.type_list_append mt_append (pv 14) (pa_cons pe_str pa_nil)))
        (pss_one (ps_if (pt_not (pt_val (pe_own D_law_same hr (pa_cons (pe_own D_ties_on hr (pa_cons (pv 3) (pa_cons (pv 6) pa_nil))) (pa_cons (pv 13) pa_nil)))))
          (pss_one (ps_ret pe_bl))
          pss_nil))))))))
      (pss_cons (ps_set (i := 15) nd rfl (Or.inl rfl) (pe_lst (pa_cons (pe_lc (own := [("table", 6)]) (g := (gName 6)) (tt := tYes) rfl nd (pi_tup (pv 2)) (blkOk_by (N := N_law) (sc := defScope s_law) (by decide +kernel)) (fun _ _ _ _ _ => (pg_name (i := 6) nd rfl (Or.inl rfl))) (fun _ _ _ _ _ => pts_nil) (fun _ _ _ _ _ => (pe_callTy (T := "list") (r := rListOf K) call_list_of (by rfl) nb.b_list (by decide +kernel) (pa_cons (pv 6) pa_nil)))) (pa_cons (pe_lc (own := [("tie", 16)]) (g := (gName 16)) (tt := tYes) rfl nd (pi_tup (pe_ix ix_tup (pv 3) pe_int (fun _ _ => rfl))) (blkOk_by (N := N_law) (sc := defScope s_law) (by decide +kernel)) (fun _ _ _ _ _ => (pg_name (i := 16) nd rfl (Or.inl rfl))) (fun _ _ _ _ _ => pts_nil) (fun _ _ _ _ _ => (pe_callTy (T := "list") (r := rListOf K) call_list_of (by rfl) nb.b_list (by decide +kernel) (pa_cons (pv 16) pa_nil)))) (pa_cons (pe_lst pa_nil) pa_nil)))))
      (pss_cons (ps_for PassesOwn.never rfl (pi_tup (pe_ix ix_tup (pv 3) pe_int (fun _ _ => rfl))) (pg_name (i := 16) nd rfl (Or.inl rfl))
        (pss_cons (ps_for PassesOwn.never rfl (pi_tup (pe_tup (pa_cons (pv 3) (pa_cons (pv 15) pa_nil)))) (pg_name (i := 17) nd rfl (Or.inl rfl))
          (pss_one (ps_if (pt_not (pt_val (pe_own D_law_same hr (pa_cons (pe_own D_law_told hr (pa_cons pe_int (pa_cons (pv 17) (pa_cons (pe_ix ix_tup (pv 16) pe_int (fun _ _ => rfl)) (pa_cons pe_str pa_nil))))) (pa_cons (pe_tup (pa_cons pe_str (pa_cons (pv 16) pa_nil))) pa_nil)))))
            (pss_one (ps_ret pe_bl))
            pss_nil)))
        (pss_one (ps_if (pt_not (pt_val (pe_own D_law_same hr (pa_cons (pe_own D_ties_on hr (pa_cons (pv 15) (pa_cons (pe_ix ix_tup (pv 16) pe_int (fun _ _ => rfl)) pa_nil))) (pa_cons (pe_own D_ties_on hr (pa_cons (pv 3) (pa_cons (pe_ix ix_tup (pv 16) pe_int (fun _ _ => rfl)) pa_nil))) pa_nil)))))
          (pss_one (ps_ret pe_bl))
          pss_nil))))
      (pss_cons (ps_for PassesOwn.never rfl (pi_list (pv 8)) (pg_name (i := 18) nd rfl (Or.inl rfl))
        (pss_one (ps_if (pt_not (pt_val (pe_own D_law_strange_right hr (pa_cons (pv 3) (pa_cons (pv 18) (pa_cons (pe_own D_law_some hr (pa_cons (pv 1) (pa_cons (pv 8) pa_nil))) pa_nil))))))
          (pss_one (ps_ret pe_bl))
          pss_nil)))
      (pss_one (ps_ret (pe_cmpR op_eq (pe_callB (call_repr_d hg hr) (by rfl) nb.b_repr (by decide +kernel) (pa_cons (pv 3) pa_nil)) (pv 4) (nomark _)))))))))))))), ?_⟩
    -- state, tables
    refine ⟨.ref a, rfl, a, ns, rfl, hS, fun s c H1 S1 _ _ _ => ?_⟩
    refine ⟨.ref s, rfl, .ref s, rfl, s, c, 0, _, rfl, S1, by decide, by decide, by decide, fun d H2 d0 d1 S2 _ => ⟨_, _, rfl, rfl, ?_⟩⟩
    obtain ⟨m, hm⟩ : ∃ m : Nat, 1 + d = (m : Int) := ⟨(1 + d).toNat, by omega⟩
    refine ⟨s, c, 1, m, 5, congrArg (fun z => [V.ref s, V.int z, V.int 5]) hm, S2, by omega, by omega, by decide, by decide, fun tp ts H3 lts okts ftp dts S3 K3 => ?_⟩
    have tpout : tp ∉ [s, c] := by simp [(S2.nes ftp).symm, (S2.nec ftp).symm]
    have TM : Tabs K (msk [s, c] H3) tp ts := ⟨dts, okts, by omega, by omega⟩
    -- plan
    refine ⟨.ref tp, rfl, .ref s, rfl, .ref tp, rfl, .ref s, rfl, s, c, _, _, rfl, S3, by omega, by decide, by decide, fun e H4 e0 e1 S4 K4 => ?_⟩
    obtain ⟨many, hmany⟩ : ∃ many : Nat, e = (many : Int) := ⟨e.toNat, by omega⟩
    refine ⟨s, c, _, tp, ts, many, congrArg (fun z => [V.ref s, V.ref tp, V.int z]) hmany, S4, by omega, by omega, tpout, TM.same (msk_same K4), fun ep es0 H5 les nde okt fep dpe S5 K5 => ?_⟩
    refine ⟨Nat.zero_le _, fun pe ne => ⟨(by show 3 ≤ sizeLine; decide), fun p np => ?_⟩⟩
    obtain ⟨es, rfl, l7, okz, hnm⟩ := ties_texts okts okt
    have M5 := mask2 S5
    have hpe : pe ∉ [s, c] := M5.new ne
    have S6 := (S5.upd_new (o := .tup []) ne).upd_new (o := .tup [.ref tp, .ref ep, .ref pe]) np
    have hp2 : p ∉ [s, c] := (mask2 (S5.upd_new (o := .tup []) ne)).new np
    have pep : pe ≠ p := ne_of_none upd_same np
    have k56 : Kept [s, c] H5 (upd (upd H5 pe (.tup [])) p (.tup [.ref tp, .ref ep, .ref pe])) := (Kept.upd_new ne).trans (Kept.upd_new np)
    have PW6 : PlanW K (msk [s, c] (upd (upd H5 pe (.tup [])) p (.tup [.ref tp, .ref ep, .ref pe]))) p tp ep ts es := by
      refine ⟨⟨pe, .inl (.inl (msk_at upd_same hp2)), .inl (.inl (msk_at (by rw [upd_ne pep, upd_same]) hpe))⟩, TM.same ((msk_same K4).trans ((msk_same K5).trans (msk_same k56))), dp_same (msk_same k56) dpe, l7, okz, ?_, by rw [hnm]; exact nde⟩
      rw [List.length_map] at les
      omega
    show tSeq _ _ _ _ (upd (upd H5 pe (.tup [])) p (.tup [.ref tp, .ref ep, .ref pe]))
    generalize upd (upd H5 pe (.tup [])) p (.tup [.ref tp, .ref ep, .ref pe]) = H6 at S6 PW6 ⊢
    clear hp2 pep hpe M5 k56 dpe S5 K5 S4 K4 TM dts S3 K3 S2 S1 ne np
    -- kept, taken
    have PW := PW6.same (msk_sub _ _)
    have T6 := PW.tb
    obtain ⟨niceT, wtT, depT⟩ := tabs_nice (by decide) T6.l8 okts
    have lez := PW.le
    obtain ⟨niceE, wtE, depE⟩ := ties_nice okts okt (by rw [List.length_map]; omega)
    obtain ⟨e0, hpl, he0⟩ := PW.pl
    have dPl : ∀ {H' : Hp}, Same H6 H' → Dp K H' (.ref p) (.tuple [.tuple (ts.map tabD), .tuple (es.map fun zs => PyData.tuple (zs.map PyData.str)), .tuple []]) := fun {H'} sm => .tup (sameT sm hpl) (.cons (dp_same sm T6.dp) (.cons (dp_same sm PW.ti) (.cons (.tup (sameT sm he0) .nil) .nil)))
    have sh : Shows (.tuple [.tuple (ts.map tabD), .tuple (es.map fun zs => PyData.tuple (zs.map PyData.str)), .tuple []]) := by
      refine shows_nice (B := 1000000000) (L := 11) ⟨by show 3 ≤ 11; decide, niceT.mono (by decide) (by decide), niceE, ⟨Nat.zero_le _, trivial⟩, trivial⟩ (by decide) ?_ ?_
      · show max (PyData.tuple (ts.map tabD)).depth (max (PyData.tuple (es.map fun zs => PyData.tuple (zs.map PyData.str))).depth (max 1 0)) + 1 ≤ 60
        omega
      · show 6 + (wt (.tuple (ts.map tabD)) + 3 + (wt (.tuple (es.map fun zs => PyData.tuple (zs.map PyData.str))) + 3 + (6 + 3 + 0))) ≤ 100000
        omega
    refine ⟨.ref p, rfl, .ref p, _, rfl, dPl (Same.refl _), sh.sh, sh.nd, sh.dp, sh.sz, ?_⟩
    obtain ⟨xs, hTS, hTA, lx⟩ := T6.parts
    obtain ⟨yt, hES, ly, hparts⟩ := PW.ties
    have l8 := T6.l8
    refine ⟨.ref tp, rfl, tp, rfl, ⟨_, hTS⟩, fun D1 nD1 => ?_⟩
    refine lc_it walk_tup (PvM H6 D1 fun i => .str ((tns ts).getD i Str.empty)) (pvm_start ..) (fun i H' _ hP => sameT (pvm_same hP nD1) hTS) (fun i x H' H'' hi hP hY => ?_) (fun H7 hP1 => ?_)
    · obtain ⟨rfl, hx⟩ := hY
      obtain ⟨tb, qq, pc, ys, htb, rfl, h1, _, _⟩ := tab_at hTA hx
      refine ⟨rfl, ?_⟩
      unfold tYes
      dsimp only
      refine iteT ?_
      refine ⟨.ref qq, rfl, qq, _, 0, .str tb.1, rfl, rfl, sameT (pvm_same hP nD1) h1, atI_nat (j := 0) rfl, pvm_step hP (Same.refl _) ?_ (by omega)⟩
      rw [getD_of (show (tns ts)[i]? = some tb.1 by rw [List.getElem?_map, htb]; rfl)]
    have s7 := pvm_same hP1 nD1
    have eD1 : H7 D1 = some (.lst ((tns ts).map V.str)) := by
      rw [hP1.1, lx, ← tns_len]
      have e := range_map (fun z => V.str z) Str.empty (tns ts)
      rw [e]
    refine ⟨.ref p, rfl, p, _, 1, .ref ep, rfl, rfl, sameT s7 hpl, atI_nat (j := 1) rfl, ep, rfl, ⟨_, sameT s7 hES⟩, fun D2 nD2 => ?_⟩
    refine lc_it walk_tup (PvM H7 D2 fun i => .str ((es.map fun zs => zs.headD Str.empty).getD i Str.empty)) (pvm_start ..) (fun i H' _ hP => sameT (s7.trans (pvm_same hP nD2)) hES) (fun i x H' H'' hi hP hY => ?_) (fun H8 hP2 => ?_)
    · obtain ⟨rfl, hx⟩ := hY
      obtain ⟨zs, hz⟩ : ∃ zs, es[i]? = some zs := ⟨_, List.getElem?_eq_getElem (show i < es.length by omega)⟩
      obtain ⟨r, hr1, hr2⟩ := hparts i zs hz
      rw [hx] at hr1
      cases hr1
      obtain ⟨z0, rz, rfl⟩ : ∃ z0 rz, zs = z0 :: rz := by
        cases zs with
        | nil => have := l7 _ (List.mem_of_getElem? hz); cases this
        | cons z r => exact ⟨z, r, rfl⟩
      refine ⟨rfl, ?_⟩
      unfold tYes
      dsimp only
      refine iteT ?_
      refine ⟨.ref r, rfl, r, _, 0, .str z0, rfl, rfl, sameT (s7.trans (pvm_same hP nD2)) hr2, atI_nat (j := 0) rfl, pvm_step hP (Same.refl _) ?_ (by omega)⟩
      rw [getD_of (show (es.map fun zs => zs.headD Str.empty)[i]? = some z0 by rw [List.getElem?_map, hz]; rfl)]
    have s8' := pvm_same hP2 nD2
    have eD2 : H8 D2 = some (.lst ((es.map fun zs => zs.headD Str.empty).map V.str)) := by
      have ll : yt.length = (es.map fun zs => zs.headD Str.empty).length := by rw [List.length_map]; exact ly
      rw [hP2.1, ll]
      have e := range_map (fun z => V.str z) Str.empty (es.map fun zs => zs.headD Str.empty)
      rw [e]
    generalize hzn : (es.map fun zs => zs.headD Str.empty) = hds at eD2
    have lh : hds.length = es.length := by rw [← hzn, List.length_map]
    have lt1 : (tns ts).length = ts.length := tns_len
    refine ⟨D1, D2, _, _, rfl, rfl, s8' _ _ eD1, eD2, Nat.le_of_lt (small1000 (by simp only [List.length_map]; omega)), fun L nL => ?_⟩
    have eL : (upd H8 L (.lst ((tns ts).map V.str ++ hds.map V.str))) L = some (.lst ((tns ts ++ hds).map V.str)) := by rw [upd_same, List.map_append]
    have s9 := (s7.trans s8').trans (same_upd (o := .lst ((tns ts).map V.str ++ hds.map V.str)) nL)
    have nL6 : H6 L = none := Same.free (s7.trans s8') nL
    generalize upd H8 L (.lst ((tns ts).map V.str ++ hds.map V.str)) = H9 at eL s9 ⊢
    refine ⟨(by show 2 ≤ sizeLine; decide), fun t nt => ⟨t, _, rfl, .inl (.inl upd_same), rfl, _, _, rfl, .ref L, _, rfl, rfl, ?_⟩⟩
    have s10 := s9.trans (same_upd (o := .tup [.str (PyData.tuple [.tuple (ts.map tabD), .tuple (es.map fun zs => PyData.tuple (zs.map PyData.str)), .tuple []]).shown, .ref L]) nt)
    have eL10 := same_upd (o := .tup [.str (PyData.tuple [.tuple (ts.map tabD), .tuple (es.map fun zs => PyData.tuple (zs.map PyData.str)), .tuple []]).shown, .ref L]) nt _ _ eL
    generalize hText : (PyData.tuple [.tuple (ts.map tabD), .tuple (es.map fun zs => PyData.tuple (zs.map PyData.str)), .tuple []]).shown = text at s10 eL10 ⊢
    generalize upd H9 t (.tup [.str text, .ref L]) = H10 at s10 eL10 ⊢
    -- taken.extend(..)
    have smL : ∀ {H' : Hp}, Kept [L] H10 H' → Same H6 H' := fun {H'} k b o e => k b o (s10 b o e) fun z => by rw [List.mem_singleton.mp z, nL6] at e; cases e
    refine ⟨.ref tp, rfl, tp, rfl, ⟨_, sameT s10 hTS⟩, ?_⟩
    refine for_tup (K := K) (a := tp) (xs := xs) (fun i σ H' => (∃ y6 y7, σ = [some (.ref a), some (.ref s), some (.ref tp), some (.ref p), some (.str text), some (.ref L), y6, y7, none, none, none, none, none, none, none, none, none, none, none, none, none]) ∧
      H' L = some (.lst ((tns ts ++ hds ++ (ts.take i).flatMap fun t => t.2.map (·.1)).map V.str)) ∧ ((ts.take i).flatMap fun t => t.2.map (·.1)).length ≤ i * 5 ∧ Kept [L] H10 H') ⟨⟨none, none, rfl⟩, by rw [List.take_zero, List.flatMap_nil, List.append_nil]; exact eL10, Nat.zero_le _, Kept.refl _ _⟩ (fun i σ H' _ hP => sameT (smL hP.2.2.2) hTS) (fun i x σ H' hx hP => ?_) (fun σ H11 hP => ?_)
    · obtain ⟨⟨y6, y7, rfl⟩, eLi, lf, k⟩ := hP
      obtain ⟨tb, qq, pc, ys, htb, rfl, h1, h2, h3⟩ := tab_at hTA hx
      have hmt : tb ∈ ts := List.mem_of_getElem? htb
      obtain ⟨okc, _⟩ := okts.cs tb hmt
      have l5 := okc.top
      have hi : i < ts.length := (List.getElem?_eq_some_iff.mp htb).1
      have sk := smL k
      refine ⟨qq, _, rfl, sameT sk h1, rfl, .str tb.1, _, rfl, .ref pc, _, rfl, rfl, ?_⟩
      refine ⟨.ref L, rfl, .inl ⟨rfl, _, .inl (.inl eLi)⟩, .ref pc, rfl, pc, rfl, ⟨_, sameT sk h2⟩, fun D nD => ?_⟩
      have ly2 : ys.length = (tb.2.map (·.1)).length := by rw [dpAll_len h3, List.length_map, List.length_map]
      have ly3 : (tb.2.map (·.1)).length = tb.2.length := List.length_map ..
      refine lc_it walk_tup (PvM H' D fun i => .str ((tb.2.map (·.1)).getD i Str.empty)) (pvm_start ..) (fun i H2 _ hP => sameT (sk.trans (pvm_same hP nD)) h2) (fun i x H2 H3 hi hP hY => ?_) (fun H2 hP => ?_)
      · obtain ⟨rfl, hx⟩ := hY
        obtain ⟨co, qc, yc, hco, rfl, hqc⟩ := col_at h3 hx
        refine ⟨qc, _, rfl, sameT (sk.trans (pvm_same hP nD)) hqc, rfl, .str co.1, _, rfl, yc, _, rfl, rfl, ?_⟩
        refine ⟨rfl, ?_⟩
        unfold tYes
        dsimp only
        refine iteT ?_
        refine ⟨.str co.1, rfl, pvm_step hP (Same.refl _) ?_ (by omega)⟩
        rw [getD_of (show (tb.2.map (·.1))[i]? = some co.1 by rw [List.getElem?_map, hco]; rfl)]
      · have eD : H2 D = some (.lst ((tb.2.map (·.1)).map V.str)) := by
          rw [hP.1, ly2]
          have e := range_map (fun z => V.str z) Str.empty (tb.2.map (·.1))
          rw [e]
        have s2 := pvm_same hP nD
        have ef : (ts.take (i + 1)).flatMap (fun t => t.2.map (·.1)) = (ts.take i).flatMap (fun t => t.2.map (·.1)) ++ tb.2.map (·.1) := by
          rw [List.take_add_one, htb, List.flatMap_append]
          congr 1
          show List.flatMap _ [tb] = _
          rw [List.flatMap_cons, List.flatMap_nil, List.append_nil]
        refine ⟨L, D, _, _, rfl, rfl, s2 _ _ eLi, eD, Nat.le_of_lt (small1000 (by simp only [List.length_map, List.length_append]; omega)), ⟨_, _, rfl⟩, ?_, ?_, (k.trans (Kept.of_same s2)).trans (Kept.upd_in (List.mem_cons_self ..))⟩
        · rw [upd_same, ef, ← List.map_append]
          simp only [List.append_assoc]
        · rw [ef, List.length_append, ly3]; omega
    obtain ⟨⟨y6, y7, rfl⟩, eL11, lf, k11⟩ := hP
    rw [lx, List.take_length] at eL11 lf
    have s11 := smL k11
    -- strange
    generalize hzs : tns ts ++ hds ++ ts.flatMap (fun t => t.2.map (·.1)) = zs at eL11
    refine ⟨abc, rfl, fun D nD => ?_⟩
    refine lc_it (walk_str (z := abc)) (fun i H' => ∃ sg : List Str, H' D = some (.lst (sg.map V.str)) ∧ sg.length ≤ i ∧ (∀ z ∈ sg, NameOk z ∧ z ∉ zs) ∧ Kept [D] H11 H') ⟨[], upd_same, Nat.le_refl _, fun _ h => absurd h List.not_mem_nil, Kept.upd_in (List.mem_cons_self ..)⟩ (fun _ _ _ _ => trivial) (fun i x H' H'' hi hP hY => ?_) (fun H12 hP => ?_)
    · obtain ⟨rfl, cc, hcc, rfl⟩ := hY
      obtain ⟨sg, eD, lg, okg, k⟩ := hP
      have hi26 : i < 26 := hi
      have lowc : low cc := by
        have hm : cc ∈ cl abc := by
          unfold cl
          exact Array.mem_toList_iff.mpr (Array.mem_of_getElem? hcc)
        rw [abc_cl, List.mem_map] at hm
        obtain ⟨b, hb, rfl⟩ := hm
        have := List.mem_range.mp hb
        unfold low
        omega
      have nLD : L ≠ D := ne_of_none eL11 nD
      have eL' : H'' L = some (.lst (zs.map V.str)) := k.at eL11 (by simp [nLD])
      refine ⟨rfl, ?_⟩
      refine ⟨_, rfl, cc, rfl, rfl, .ref L, rfl, L, _, rfl, .inl (.inl (.inl eL')), rfl, flat_strs _, _, rfl, ?_⟩
      rw [if_pos rfl, inV_strs]
      refine ite2 (fun e => ?_) (fun e => ?_)
      · have hn : s8 cc ∉ zs := by
          have e' : (!decide (s8 cc ∈ zs)) = true := e
          simpa using e'
        refine ⟨_, rfl, cc, rfl, rfl, _, eD, small1000 (by rw [List.length_map]; omega), sg ++ [s8 cc], by rw [upd_same, List.map_append]; rfl, by rw [List.length_append]; show sg.length + 1 ≤ i + 1; omega, fun z hz => ?_, k.trans (Kept.upd_in (List.mem_cons_self ..))⟩
        rcases List.mem_append.mp hz with h | h
        · exact okg z h
        · rw [List.mem_singleton.mp h]
          exact ⟨s8_ok lowc, hn⟩
      · exact ⟨sg, eD, by omega, okg, k⟩
    obtain ⟨sg, eD, lg, okg, k12⟩ := hP
    have s12 : Same H11 H12 := fun b o e => k12 b o e fun z => by rw [List.mem_singleton.mp z, nD] at e; cases e
    refine ⟨3, rfl, D, _, rfl, .inl (.inl eD), fun SG nSG => ?_⟩
    have S12 := S6.same (s11.trans s12)
    have outS : SG ∉ [s, c] := by simp [(S12.nes nSG).symm, (S12.nec nSG).symm]
    have eS : (upd H12 SG (.lst (cutV (sg.map V.str) none (some 3)))) SG = some (.lst ((sg.take 3).map V.str)) := by
      rw [upd_same, show cutV (sg.map V.str) none (some 3) = (sg.map V.str).take 3 from cutV_lo _ 3, List.map_take]
    have s13 : Same H6 (upd H12 SG (.lst (cutV (sg.map V.str) none (some 3)))) := s11.trans (s12.trans (same_upd nSG))
    show tSeq _ _ _ _ (upd H12 SG (.lst (cutV (sg.map V.str) none (some 3))))
    generalize upd H12 SG (.lst (cutV (sg.map V.str) none (some 3))) = H13 at eS s13 ⊢
    have okg3 : ∀ z ∈ sg.take 3, NameOk z ∧ z ∉ zs := fun z hz => okg z (List.mem_of_mem_take hz)
    have l3 : (sg.take 3).length ≤ 3 := by rw [List.length_take]; omega
    generalize sg.take 3 = sgs at eS okg3 l3
    have S13 := S6.same s13
    have PM13 := PW6.same (msk_same (Kept.of_same (M := [s, c]) s13))
    have PW13 := PW.same s13
    have dPl13 : Dp K H13 (.ref p) _ := dPl s13
    -- for table, columns in tables: each place, each fallback; the ties onto it
    refine ⟨.ref tp, rfl, tp, rfl, ⟨_, sameT s13 hTS⟩, ?_⟩
    refine for_tup (K := K) (a := tp) (xs := xs) (fun i σ H' => (∃ y6 y7 y9 y10 y11 y12 y13 y14, σ = [some (.ref a), some (.ref s), some (.ref tp), some (.ref p), some (.str text), some (.ref L), y6, y7, some (.ref SG), y9, y10, y11, y12, y13, y14, none, none, none, none, none, none]) ∧ Same H13 H') ⟨⟨_, _, _, _, _, _, _, _, rfl⟩, Same.refl _⟩ (fun i σ H' _ hP => sameT (s13.trans hP.2) hTS) (fun i x σ H' hx hP => ?_) (fun σ H14 hP => ?_)
    · obtain ⟨⟨y6, y7, y9, y10, y11, y12, y13, y14, rfl⟩, sk⟩ := hP
      obtain ⟨tb, qq, pc, ys, htb, rfl, h1, h2, h3⟩ := tab_at hTA hx
      have hmt : tb ∈ ts := List.mem_of_getElem? htb
      have htn : tb.1 ∈ tns ts := List.mem_map.mpr ⟨tb, hmt, rfl⟩
      have hcols : colsOf ts tb.1 = tb.2 := colsOf_mem okts.nd hmt
      have s6k := s13.trans sk
      refine ⟨qq, _, rfl, sameT s6k h1, rfl, .str tb.1, _, rfl, .ref pc, _, rfl, rfl, ?_⟩
      refine ⟨.ref pc, rfl, pc, ys, rfl, sameT s6k h2, ?_⟩
      refine for_it (walk_enumT (a := pc) (xs := ys)) (fun j σ H2 => (∃ y9 y10 y11 y12, σ = [some (.ref a), some (.ref s), some (.ref tp), some (.ref p), some (.str text), some (.ref L), some (.str tb.1), some (.ref pc), some (.ref SG), y9, y10, y11, y12, y13, y14, none, none, none, none, none, none]) ∧ Same H13 H2) ⟨⟨_, _, _, _, rfl⟩, sk⟩ (fun j σ H2 _ hP => sameT (s13.trans hP.2) h2) (fun j x σ H2 H2' hj hP hY => ?_) (fun σ H2 hP => ?_)
      · obtain ⟨⟨z9, z10, z11, z12, rfl⟩, sk2⟩ := hP
        obtain ⟨T, x1, y1, rfl, nT, rfl, hh1, hh2⟩ := hY
        have hh1 : some (V.int (j : Int)) = some x1 := hh1
        cases hh1
        obtain ⟨co, qc, hco, rfl, hqc⟩ := col_at2 h3 hh2
        have s6T := (s13.trans sk2).trans (same_upd (o := .tup [.int (j : Int), .ref qc]) nT)
        refine ⟨T, _, rfl, .inl (.inl upd_same), rfl, .int (j : Int), _, rfl, .ref qc, _, rfl, qc, _, rfl, sameT s6T hqc, rfl, .str co.1, _, rfl, wV co.2, _, rfl, rfl, rfl, ?_⟩
        -- told
        refine ⟨2, rfl, by decide, by decide, fun D nD => ?_⟩
        have s2T := sk2.trans (same_upd (o := .tup [.int (j : Int), .ref qc]) nT)
        generalize upd H2 T (.tup [.int (j : Int), .ref qc]) = H2t at s2T s6T nD ⊢
        have smD : ∀ {H' : Hp}, Kept [D] H2t H' → Same H2t H' := fun {H'} k b o e => k b o e fun z => by rw [List.mem_singleton.mp z, nD] at e; cases e
        refine lc_it (walk_range (lo := 0) (n := (2 : Int).toNat)) (fun i H3 => ∃ rs, H3 D = some (.lst rs) ∧ DpAll K (msk [D] H3) rs ([PyData.tuple [.str "told", wD (some (j : Int))], .tuple [.str "told", wD co.2]].take i) ∧ rs.length = i ∧ Kept [D] H2t H3) ⟨[], upd_same, .nil, rfl, Kept.upd_in (List.mem_cons_self ..)⟩ (fun _ _ _ _ => trivial) (fun i x H3 H4 hi hP hY => ?_) (fun H3 hP => ?_)
        · obtain ⟨rfl, rfl⟩ := hY
          obtain ⟨rs, eD, dr, lr, k⟩ := hP
          have hi : i < 2 := hi
          have s3 := s6T.trans (smD k)
          refine ⟨rfl, ?_⟩
          unfold tYes
          dsimp only
          refine iteT ?_
          obtain ⟨o, ho, hT⟩ : ∃ o : Option Int, [PyData.tuple [.str "told", wD (some (j : Int))], .tuple [.str "told", wD co.2]][i]? = some (.tuple [.str "told", wD o]) ∧ Tells K H4 (0 + (i : Int)) (.ref p) tb.1 co.1 (.tuple [.str "told", wD o]) := by
            have hc2 : (colsOf ts tb.1)[j]? = some co := by rw [hcols]; exact hco
            have hP3 := (PW.same s3).planT
            have : i = 0 ∨ i = 1 := by omega
            rcases this with rfl | rfl
            · exact ⟨some (j : Int), rfl, .inl ⟨ts, .inl rfl, hP3, .inr (.inr ⟨j, co, htn, hc2, rfl, .inl ⟨rfl, rfl⟩⟩)⟩⟩
            · exact ⟨co.2, rfl, .inl ⟨ts, .inr rfl, hP3, .inr (.inr ⟨j, co, htn, hc2, rfl, .inr ⟨rfl, rfl⟩⟩)⟩⟩
          refine ⟨_, rfl, .ref p, rfl, .str tb.1, rfl, .str co.1, rfl, _, _, tb.1, co.1, _, rfl, hT, fun r H5 s5 hr => ⟨rs, s5 _ _ eD, small1000 (by omega), rs ++ [.ref r], upd_same, ?_, by rw [List.length_append, lr]; rfl, (k.trans (Kept.of_same s5)).trans (Kept.upd_in (List.mem_cons_self ..))⟩⟩
          have kk : Kept [D] H4 (upd H5 D (.lst (rs ++ [.ref r]))) := (Kept.of_same s5).trans (Kept.upd_in (List.mem_cons_self ..))
          rw [List.take_add_one, ho]
          refine dpAll_snoc (dpAll_same (msk_same kk) dr) ?_
          exact dp_same (msk_same (Kept.upd_in (List.mem_cons_self ..))) (dp_flat (s5 _ _ eD) hr)
        · obtain ⟨rs, eD, dr, lr, k⟩ := hP
          have dr2 : DpAll K H3 rs [PyData.tuple [.str "told", wD (some (j : Int))], .tuple [.str "told", wD co.2]] := dpAll_same (msk_sub _ _) dr
          have s3 := s2T.trans (smD k)
          refine ⟨.ref D, rfl, .int (j : Int), rfl, (by show 2 ≤ sizeLine; decide), fun t1 n1 => ⟨wV co.2, rfl, (by show 2 ≤ sizeLine; decide), fun t2 n2 => ⟨(by show 2 ≤ sizeLine; decide), fun l1 m1 => ?_⟩⟩⟩
          have u1 := same_upd (o := .tup [.str "told", .int (j : Int)]) n1
          have u2 := same_upd (o := .tup [.str "told", wV co.2]) n2
          have u3 := same_upd (o := .lst [.ref t1, .ref t2]) m1
          have okw : WOk co.2 := (okts.cs tb hmt).1.w co (List.mem_of_getElem? hco)
          obtain ⟨w1, _, w3⟩ := w_nice okw
          have j5 : j ≤ 100 := by
            have a1 := dpAll_len h3
            rw [List.length_map] at a1
            have a2 := (okts.cs tb hmt).1.top
            omega
          refine ⟨.ref D, .ref l1, .list [.tuple [.str "told", wD (some (j : Int))], .tuple [.str "told", wD co.2]], rfl, .lst (.inl (.inl ((u1.trans (u2.trans u3)) _ _ eD))) (dpAll_same (u1.trans (u2.trans u3)) dr2),
            .lst (.inl (.inl upd_same)) (.cons (dp_same (u2.trans u3) (.tup (.inl (.inl upd_same)) (.cons (.str _) (.cons (.int _) .nil)))) (.cons (dp_same u3 (.tup (.inl (.inl upd_same)) (.cons (.str _) (.cons (dp_w co.2) .nil)))) .nil)), ?_, ?_, fun H5 s5 => ⟨_, rfl, iteF ⟨⟨_, _, _, _, rfl⟩, s3.trans (u1.trans (u2.trans (u3.trans s5)))⟩⟩⟩
          · show max (max 0 (max 0 0) + 1) (max (max 0 (max (wD co.2).depth 0) + 1) 0) + 1 < 6
            rw [w3]; decide
          · have tn : ∀ c ∈ cl (Str.ofString "told"), c < 128 := by decide +kernel
            exact ⟨by show 2 ≤ 900; decide, ⟨by show 2 ≤ 900; decide, tn, by show ((j : Int)).natAbs ≤ 10 ^ 12; omega, trivial⟩, ⟨by show 2 ≤ 900; decide, tn, w1.mono (by decide) (by decide), trivial⟩, trivial⟩
      · obtain ⟨⟨z9, z10, z11, z12, rfl⟩, sk2⟩ := hP
        -- due
        have s6b := s13.trans sk2
        refine ⟨.ref p, rfl, p, _, 1, .ref ep, rfl, rfl, sameT s6b hpl, atI_nat (j := 1) rfl, ep, rfl, ⟨_, sameT s6b hES⟩, fun D nD => ?_⟩
        have smD : ∀ {H' : Hp}, Kept [D] H2 H' → Same H2 H' := fun {H'} k b o e => k b o e fun z => by rw [List.mem_singleton.mp z, nD] at e; cases e
        have fsucc : ∀ {i : Nat} {zs : List Str}, es[i]? = some zs → ((es.take (i + 1)).filter fun zs => zs[3]? == some tb.1) = ((es.take i).filter fun zs => zs[3]? == some tb.1) ++ (if zs[3]? == some tb.1 then [zs] else []) := fun {i zs} h => by
          rw [List.take_add_one, h, List.filter_append]
          congr 1
          show List.filter _ [zs] = _
          rw [List.filter_cons, List.filter_nil]
        refine lc_it (walk_tup (xs := yt)) (fun i H' => ∃ us, H' D = some (.lst us) ∧ DpAll K H2 us (((es.take i).filter fun zs => zs[3]? == some tb.1).map tieD) ∧ us.length ≤ i ∧ Kept [D] H2 H') ⟨[], upd_same, .nil, Nat.le_refl _, Kept.upd_in (List.mem_cons_self ..)⟩ (fun i H' _ hP => sameT (s6b.trans (smD hP.choose_spec.2.2.2)) hES) (fun i x H' H'' hi hP hY => ?_) (fun H3 hP => ?_)
        · obtain ⟨rfl, hx⟩ := hY
          obtain ⟨us, eD, dp, lu, k⟩ := hP
          obtain ⟨zs', hz⟩ : ∃ zs, es[i]? = some zs := ⟨_, List.getElem?_eq_getElem (show i < es.length by omega)⟩
          obtain ⟨r, hr1, hr2⟩ := hparts i zs' hz
          rw [hx] at hr1
          cases hr1
          have i9 : i < es.length := by omega
          obtain ⟨z3, hz3⟩ : ∃ z, zs'[3]? = some z := ⟨_, List.getElem?_eq_getElem (by rw [l7 zs' (List.mem_of_getElem? hz)]; decide)⟩
          have ef := fsucc hz
          refine ⟨rfl, ?_⟩
          refine ⟨.ref r, rfl, r, _, 3, .str z3, rfl, rfl, sameT (s6b.trans (smD k)) hr2, atI_nat (j := 3) (by rw [List.getElem?_map, hz3]; rfl), .str tb.1, rfl, rfl, _, rfl, ite2 (fun e => ?_) (fun e => ?_)⟩
          · have e := V.str.inj (of_decide_eq_true e)
            rw [hz3, e, show (some tb.1 == some tb.1) = true by simp, if_pos rfl] at ef
            refine ⟨.ref r, rfl, us, eD, small1000 (by omega), us ++ [.ref r], upd_same, ?_, by rw [List.length_append]; show us.length + 1 ≤ i + 1; omega, k.trans (Kept.upd_in (List.mem_cons_self ..))⟩
            rw [ef, List.map_append]
            exact dpAll_snoc dp (.tup (xs := zs'.map V.str) (sameT s6b hr2) (dp_strs zs'))
          · have e : ¬ z3 = tb.1 := fun z => e (decide_eq_true (congrArg V.str z))
            rw [hz3, show (some z3 == some tb.1) = false by simp [e], if_neg (by decide), List.append_nil] at ef
            exact ⟨us, eD, by rw [ef]; exact dp, by omega, k⟩
        obtain ⟨us, eD, dp, lu, k⟩ := hP
        rw [ly, List.take_length] at dp
        have s3 := sk2.trans (smD k)
        have PW3 := PW.same (s13.trans s3)
        obtain ⟨fn1, fn2⟩ := texts_nice (es := es.filter fun zs => zs[3]? == some tb.1) (fun zs hz => l7 zs (List.mem_filter.mp hz).1) (fun zs hz => okz zs (List.mem_filter.mp hz).1) (Nat.le_trans (List.length_filter_le ..) (by omega))
        have p4 : ∀ zs ∈ es, 3 < zs.length := fun zs hz => by rw [l7 zs hz]; decide
        -- found
        refine ⟨.ref p, rfl, .str tb.1, rfl, .ref p, tb.1, es, rfl, PW3.partsAt, p4, by omega, fun D2 us2 H4 s4 eD2 d2 nD2 => ?_⟩
        refine ⟨.ref D2, rfl, .ref D, rfl, .ref D2, .ref D, _, rfl, .lst (.inl (.inl eD2)) d2, .lst (.inl (.inl (s4 _ _ eD))) (dpAll_same ((smD k).trans s4) dp), fn2, fn1, fun H5 s5 => ⟨_, rfl, iteF ?_⟩⟩
        have l2 : us2.length ≤ 900 := by
          have h := dpAll_len d2
          rw [List.length_map] at h
          have h' := List.length_filter_le (fun zs : List Str => zs[3]? == some tb.1) es
          omega
        refine ⟨.ref D2, rfl, .inl ⟨rfl, _, .inl (.inl (s5 _ _ eD2))⟩, D2, us2, _, rfl, rfl, s5 _ _ eD2, small1000 (by omega), ?_⟩
        have s46 : Same H3 (upd H5 D2 (.lst (us2 ++ [.str "more"]))) := fun b o e => by
          rw [upd_ne (ne_of_none e nD2)]
          exact s5 _ _ (s4 _ _ e)
        have s6' := s3.trans s46
        refine ⟨.ref p, rfl, .str tb.1, rfl, .ref p, tb.1, es, rfl, (PW.same (s13.trans s6')).partsAt, p4, by omega, fun D3 us3 H7 s7' eD3 d3 nD3 => ?_⟩
        refine ⟨.ref D, rfl, .ref D3, .ref D, _, rfl, .lst (.inl (.inl eD3)) d3, .lst (.inl (.inl (s7' _ _ (s46 _ _ eD)))) (dpAll_same ((smD k).trans (s46.trans s7')) dp), fn2, fn1, fun H8' s8' => ⟨_, rfl, iteF ⟨⟨_, _, _, _, _, _, _, _, rfl⟩, s6'.trans (s7'.trans s8')⟩⟩⟩
    · obtain ⟨⟨y6', y7', y9, y10, y11, y12, y13, y14, rfl⟩, s14⟩ := hP
      have s614 := s13.trans s14
      -- listed
      refine ⟨.ref tp, rfl, tp, rfl, ⟨_, sameT s614 hTS⟩, fun D1 nD1 => ?_⟩
      have smA : ∀ {H' : Hp}, Kept [D1] H14 H' → Same H14 H' := fun {H'} k b o e => k b o e fun z => by rw [List.mem_singleton.mp z, nD1] at e; cases e
      refine lc_it (walk_tup (xs := xs)) (fun i H' => ∃ us, H' D1 = some (.lst us) ∧ us.length ≤ i ∧ Kept [D1] H14 H') ⟨[], upd_same, Nat.le_refl _, Kept.upd_in (List.mem_cons_self ..)⟩ (fun i H' _ hP => sameT (s614.trans (smA hP.choose_spec.2.2)) hTS) (fun i x H' H'' hi hP hY => ?_) (fun H15 hP => ?_)
      · obtain ⟨rfl, hx⟩ := hY
        obtain ⟨us, eD, lu, k⟩ := hP
        obtain ⟨tb, qq, pc, ys, htb, rfl, h1, h2, h3⟩ := tab_at hTA hx
        refine ⟨rfl, ?_⟩
        unfold tYes
        dsimp only
        refine iteT ?_
        refine ⟨.ref qq, rfl, qq, _, rfl, .inr (sameT (s614.trans (smA k)) h1), fun l nl => ⟨us, by rw [upd_ne (ne_of_none eD nl)]; exact eD, small1000 (by omega), us ++ [.ref l], upd_same, by rw [List.length_append]; show us.length + 1 ≤ i + 1; omega, (k.trans (Kept.upd_new nl)).trans (Kept.upd_in (List.mem_cons_self ..))⟩⟩
      obtain ⟨_, _, _, kA⟩ := hP
      have s15 := s14.trans (smA kA)
      have s615 := s13.trans s15
      refine ⟨.ref p, rfl, p, _, 1, .ref ep, rfl, rfl, sameT s615 hpl, atI_nat (j := 1) rfl, ep, rfl, ⟨_, sameT s615 hES⟩, fun D2 nD2 => ?_⟩
      have smB : ∀ {H' : Hp}, Kept [D2] H15 H' → Same H15 H' := fun {H'} k b o e => k b o e fun z => by rw [List.mem_singleton.mp z, nD2] at e; cases e
      refine lc_it (walk_tup (xs := yt)) (fun i H' => ∃ us, H' D2 = some (.lst us) ∧ us.length = i ∧ (∀ (j : Nat) (zs : List Str), j < i → es[j]? = some zs → ∃ r : Addr, us[j]? = some (V.ref r) ∧ r ≠ D2 ∧ H' r = some (.lst (zs.map V.str))) ∧ Kept [D2] H15 H') ⟨[], upd_same, rfl, fun j _ h => absurd h (Nat.not_lt_zero j), Kept.upd_in (List.mem_cons_self ..)⟩ (fun i H' _ hP => sameT (s615.trans (smB hP.choose_spec.2.2.2)) hES) (fun i x H' H'' hi hP hY => ?_) (fun H16 hP => ?_)
      · obtain ⟨rfl, hx⟩ := hY
        obtain ⟨us, eD, lu, hall, k⟩ := hP
        obtain ⟨zs', hz⟩ : ∃ zs, es[i]? = some zs := ⟨_, List.getElem?_eq_getElem (show i < es.length by omega)⟩
        obtain ⟨r, hr1, hr2⟩ := hparts i zs' hz
        rw [hx] at hr1
        cases hr1
        refine ⟨rfl, ?_⟩
        unfold tYes
        dsimp only
        refine iteT ?_
        refine ⟨.ref r, rfl, r, _, rfl, .inr (sameT (s615.trans (smB k)) hr2), fun l nl => ?_⟩
        have nl2 : D2 ≠ l := ne_of_none eD nl
        refine ⟨us, by rw [upd_ne nl2]; exact eD, small1000 (by omega), us ++ [.ref l], upd_same, by rw [List.length_append, lu]; rfl, fun j zs'' hj hz'' => ?_, (k.trans (Kept.upd_new nl)).trans (Kept.upd_in (List.mem_cons_self ..))⟩
        by_cases hji : j < i
        · obtain ⟨r', q1, q2, q3⟩ := hall j zs'' hji hz''
          exact ⟨r', by rw [List.getElem?_append_left (by omega)]; exact q1, q2, by rw [upd_ne q2, upd_ne (ne_of_none q3 nl)]; exact q3⟩
        · obtain rfl : j = i := by omega
          rw [hz] at hz''
          cases hz''
          exact ⟨l, by rw [List.getElem?_append_right (by omega), lu, Nat.sub_self]; rfl, nl2.symm, by rw [upd_ne nl2.symm, upd_same]⟩
      obtain ⟨us, eD, lu, hall, kB⟩ := hP
      have s16 := s15.trans (smB kB)
      refine ⟨Nat.zero_le _, fun l0 n0 => ⟨(by show 3 ≤ sizeLine; decide), fun l1 m1 => ?_⟩⟩
      have s17 := s16.trans ((same_upd (o := .lst []) n0).trans (same_upd (o := .lst [.ref D1, .ref D2, .ref l0]) m1))
      have sB := (same_upd (o := .lst []) n0).trans (same_upd (o := .lst [.ref D1, .ref D2, .ref l0]) m1)
      have PL : PartsAt K (upd (upd H16 l0 (.lst [])) l1 (.lst [.ref D1, .ref D2, .ref l0])) (.ref l1) es :=
        ⟨l1, D2, _, us, rfl, .inl (.inl (.inl upd_same)), rfl, .inl (.inl (.inl (sB _ _ eD))), by rw [lu]; exact ly, fun i zs hz => by
          obtain ⟨r, q1, _, q3⟩ := hall i zs (by rw [ly]; exact (List.getElem?_eq_some_iff.mp hz).1) hz
          exact ⟨r, q1, .inl (.inl (.inl (sB _ _ q3)))⟩⟩
      show tSeq _ _ _ _ (upd (upd H16 l0 (.lst [])) l1 (.lst [.ref D1, .ref D2, .ref l0]))
      generalize upd (upd H16 l0 (.lst [])) l1 (.lst [.ref D1, .ref D2, .ref l0]) = H17 at s17 PL ⊢
      have s617 := s13.trans s17
      -- for tie in plan[1]
      have un := PW.un
      have p4 : ∀ zs ∈ es, 3 < zs.length := fun zs hz => by rw [l7 zs hz]; decide
      have p0 : ∀ zs ∈ es, 0 < zs.length := fun zs hz => by rw [l7 zs hz]; decide
      refine ⟨.ref p, rfl, p, _, 1, .ref ep, rfl, rfl, sameT s617 hpl, atI_nat (j := 1) rfl, ep, rfl, ⟨_, sameT s617 hES⟩, ?_⟩
      refine for_tup (K := K) (a := ep) (xs := yt) (fun i σ H' => (∃ y16 y17, σ = [some (.ref a), some (.ref s), some (.ref tp), some (.ref p), some (.str text), some (.ref L), y6', y7', some (.ref SG), y9, y10, y11, y12, y13, y14, some (.ref l1), y16, y17, none, none, none]) ∧ Same H17 H') ⟨⟨_, _, rfl⟩, Same.refl _⟩ (fun i σ H' _ hP => sameT (s617.trans hP.2) hES) (fun i x σ H' hx hP => ?_) (fun σ H18 hP => ?_)
      · obtain ⟨⟨y16, y17, rfl⟩, sk⟩ := hP
        have hi : i < yt.length := (List.getElem?_eq_some_iff.mp hx).1
        obtain ⟨zs', hz⟩ : ∃ zs, es[i]? = some zs := ⟨_, List.getElem?_eq_getElem (show i < es.length by omega)⟩
        obtain ⟨r, hr1, hr2⟩ := hparts i zs' hz
        rw [hx] at hr1
        cases hr1
        have hzm := List.mem_of_getElem? hz
        obtain ⟨z0, hz0⟩ : ∃ z, zs'[0]? = some z := ⟨_, List.getElem?_eq_getElem (p0 zs' hzm)⟩
        obtain ⟨z3, hz3⟩ : ∃ z, zs'[3]? = some z := ⟨_, List.getElem?_eq_getElem (p4 zs' hzm)⟩
        have hd0 : ∀ {zs : List Str} {z : Str}, zs[0]? = some z → zs.headD Str.empty = z := fun {zs z} h => by
          cases zs with
          | nil => cases h
          | cons x r => exact Option.some.inj h
        have uniq : ∀ (j : Nat) (zs'' : List Str), j ≠ i → es[j]? = some zs'' → zs''[0]? ≠ some z0 := fun j zs'' hj hj2 h => hj ((List.getElem?_inj (by rw [List.length_map]; exact (List.getElem?_eq_some_iff.mp hj2).1) un).mp (by rw [List.getElem?_map, List.getElem?_map, hj2, hz]; show some (zs''.headD Str.empty) = some (zs'.headD Str.empty); rw [hd0 h, hd0 hz0]))
        have s6k := s617.trans sk
        obtain ⟨tn1, tn2⟩ := text_nice (l7 zs' hzm) (okz zs' hzm)
        refine ⟨.ref p, rfl, .ref l1, rfl, (by show 2 ≤ sizeLine; decide), fun t9 n9 => ⟨t9, rfl, ⟨_, .inl (.inl upd_same)⟩, ?_⟩⟩
        have sk9 := sk.trans (same_upd (o := .tup [.ref p, .ref l1]) n9)
        refine for_tup (K := K) (a := t9) (xs := [.ref p, .ref l1]) (fun j σ H2 => (∃ y17, σ = [some (.ref a), some (.ref s), some (.ref tp), some (.ref p), some (.str text), some (.ref L), y6', y7', some (.ref SG), y9, y10, y11, y12, y13, y14, some (.ref l1), some (.ref r), y17, none, none, none]) ∧ Same H17 H2 ∧ H2 t9 = some (.tup [.ref p, .ref l1])) ⟨⟨_, rfl⟩, sk9, upd_same⟩ (fun j σ H2 _ hP => .inl (.inl hP.2.2)) (fun j v σ H2 hv hP => ?_) (fun σ H2 hP => ?_)
        · obtain ⟨⟨y17, rfl⟩, sk2, e9⟩ := hP
          have hPv : PartsAt K H2 v es := by
            have hj : j < 2 := (List.getElem?_eq_some_iff.mp hv).1
            have : j = 0 ∨ j = 1 := by omega
            rcases this with rfl | rfl
            · cases hv; exact (PW.same (s617.trans sk2)).partsAt
            · cases hv; exact PL.same sk2
          refine ⟨v, rfl, .ref r, rfl, r, _, 0, .str z0, rfl, rfl, sameT (s617.trans sk2) hr2, atI_nat (j := 0) (by rw [List.getElem?_map, hz0]; rfl), 2, v, z0, _, _, rfl, .inr ⟨es, rfl, hPv, p0, .inr ⟨i, zs', hz, hz0, uniq, rfl⟩⟩, fun r2 H3 s3 hr3 => ?_⟩
          refine ⟨.ref r, rfl, (by show 2 ≤ sizeLine; decide), fun t2 n2 => ?_⟩
          have u2 := same_upd (o := .tup [.str "told", .ref r]) n2
          refine ⟨.ref r2, .ref t2, _, rfl, dp_same u2 hr3, .tup (.inl (.inl upd_same)) (.cons (.str _) (.cons (.tup (sameT ((s617.trans sk2).trans (s3.trans u2)) hr2) (dp_strs zs')) .nil)), ?_, ?_, fun H4 s4 => ⟨_, rfl, iteF ⟨⟨_, rfl⟩, sk2.trans (s3.trans (u2.trans s4)), s4 _ _ (u2 _ _ (s3 _ _ e9))⟩⟩⟩
          · show max 0 (max (tieD zs').depth 0) + 1 < 6
            omega
          · exact ⟨by show 2 ≤ 900; decide, (by show ∀ c ∈ cl (Str.ofString "told"), c < 128; decide +kernel), tn1, trivial⟩
        · obtain ⟨⟨y17, rfl⟩, sk2, e9⟩ := hP
          obtain ⟨fn1, fn2⟩ := texts_nice (es := es.filter fun zs => zs[3]? == some z3) (fun zs hz => l7 zs (List.mem_filter.mp hz).1) (fun zs hz => okz zs (List.mem_filter.mp hz).1) (Nat.le_trans (List.length_filter_le ..) (by omega))
          have at3 : (zs'.map V.str)[3]? = some (.str z3) := by rw [List.getElem?_map, hz3]; rfl
          refine ⟨.ref l1, rfl, .ref r, rfl, r, _, 3, .str z3, rfl, rfl, sameT (s617.trans sk2) hr2, atI_nat (j := 3) at3, .ref l1, z3, es, rfl, PL.same sk2, p4, by omega, fun D3 us3 H3 s3 e3 d3 n3 => ?_⟩
          refine ⟨.ref p, rfl, .ref r, rfl, r, _, 3, .str z3, rfl, rfl, sameT ((s617.trans sk2).trans s3) hr2, atI_nat (j := 3) at3, .ref p, z3, es, rfl, (PW.same ((s617.trans sk2).trans s3)).partsAt, p4, by omega, fun D4 us4 H4 s4 e4 d4 n4 => ?_⟩
          exact ⟨.ref D3, .ref D4, _, rfl, .lst (.inl (.inl (s4 _ _ e3))) (dpAll_same s4 d3), .lst (.inl (.inl e4)) d4, fn2, fn1, fun H5 s5 => ⟨_, rfl, iteF ⟨⟨_, _, rfl⟩, sk2.trans (s3.trans (s4.trans s5))⟩⟩⟩
      · obtain ⟨⟨y16, y17, rfl⟩, sk⟩ := hP
        -- for name in strange
        have s618 := s617.trans sk
        have S18 := S6.same s618
        have PM18 := PW6.same (msk_same (Kept.of_same (M := [s, c]) s618))
        have eS18 : H18 SG = some (.lst (sgs.map V.str)) := sk _ _ (s17 _ _ eS)
        refine ⟨.ref SG, rfl, SG, rfl, ⟨_, .inl (.inl eS18)⟩, ?_⟩
        refine for_list (K := K) (a := SG) (xs := sgs.map V.str) (fun i σ H' => (∃ y18, σ = [some (.ref a), some (.ref s), some (.ref tp), some (.ref p), some (.str text), some (.ref L), y6', y7', some (.ref SG), y9, y10, y11, y12, y13, y14, some (.ref l1), y16, y17, y18, none, none]) ∧ H' SG = some (.lst (sgs.map V.str)) ∧ PlanW K (msk [s, c] H') p tp ep ts es ∧ StAt H' s c (1300 + i)) ⟨⟨_, rfl⟩, eS18, PM18, S18.mono (by omega)⟩ (fun i σ H' _ hP => .inl (.inl hP.2.1)) (fun i x σ H' hx hP => ?_) (fun σ H19 hP => ?_)
        · obtain ⟨⟨y18, rfl⟩, eSG, PM, ST⟩ := hP
          have hi : i < (sgs.map V.str).length := (List.getElem?_eq_some_iff.mp hx).1
          have ls : (sgs.map V.str).length = sgs.length := List.length_map ..
          obtain ⟨z, hz, rfl⟩ := strs_get hx
          refine ⟨.ref p, rfl, .str z, rfl, .ref s, rfl, .ref SG, rfl, s, c, SG, _, sgs.map V.str, rfl, ST, by omega, outS, .inl (.inl (.inl eSG)), by omega, by rw [ls]; exact Nat.lt_of_le_of_lt l3 (by decide), fun j v H2 hj S2 K2 => ?_⟩
          obtain ⟨ot, hot, rfl⟩ := strs_get hj
          have PM2 := PM.same (msk_same K2)
          have P2 := PM2.same (msk_sub _ _)
          obtain ⟨okz1, nz1⟩ := okg3 z hz
          obtain ⟨oko1, no1⟩ := okg3 ot hot
          refine ⟨.ref p, z, ot, ts, es, rfl, P2.planT, P2.partsAt, p0, okz1, oko1, fun h => nz1 ?_, fun t ht h => no1 ?_, fun zs' hzs' h => nz1 ?_, fun H3 s3 => ⟨_, rfl, iteF ⟨⟨_, rfl⟩, s3 _ _ (K2.at eSG outS), PM2.same (msk_same (Kept.of_same s3)), (S2.same s3).mono (by omega)⟩⟩⟩
          · rw [← hzs]
            exact List.mem_append_left _ (List.mem_append_left _ h)
          · rw [← hzs]
            obtain ⟨x, hx1, _, hx2⟩ := tab_of okts.nd ht
            refine List.mem_append_right _ (List.mem_flatMap.mpr ⟨x, hx1, ?_⟩)
            unfold cns at h
            rw [hx2] at h
            exact h
          · rw [← hzs, ← hzn]
            refine List.mem_append_left _ (List.mem_append_right _ (List.mem_map.mpr ⟨zs', hzs', ?_⟩))
            cases zs' with
            | nil => cases h
            | cons x r => exact Option.some.inj h
        · obtain ⟨⟨y18, rfl⟩, eSG, PM, ST⟩ := hP
          have P9 := PM.same (msk_sub _ _)
          refine ⟨.ref p, rfl, .ref p, _, rfl, P9.dp, sh.sh, sh.nd, sh.dp, sh.sz, .str text, rfl, rfl, ?_⟩
          rw [hText, decide_eq_true rfl]
          exact q _
end
end TT

set_option Elab.async false
set_option linter.all false
set_option maxRecDepth 100000
namespace TT
open PySem PySem.Spec PyProof.Rows L2
/-! ### what the top has written; the law's own head -/
theorem kit_blt {K : PySem.W.Frag} {C : Addr} {T : String} {b : Bool} (h : PySem.W.subIn K (.ref C) (.type T) = some b) (hm : PySem.W.kitMeta T = true) : PySem.W.kitOne K (.ref C) (.type T) = some b := by
  unfold PySem.W.kitOne
  rw [if_neg (fun z => nomatch (beq_iff_eq.mp z : Value.ref C = Value.type T))]
  show (if PySem.W.kitMeta T = true then PySem.W.subIn K (.ref C) (.type T) else none) = some b
  rw [if_pos hm]
  exact h
theorem kit_own {K : PySem.W.Frag} {C CT : Addr} {b : Bool} (ne : C ≠ CT) (hd : PySem.W.hasDictIn K CT = true) (ht : PySem.W.typeIn K (.ref CT) = some (.type "type")) (h : PySem.W.subIn K (.ref C) (.ref CT) = some b) : PySem.W.kitOne K (.ref C) (.ref CT) = some b := by
  obtain ⟨cd, hc, _⟩ := PySem.W.any_some hd
  unfold PySem.W.kitOne
  rw [if_neg (fun z => ne (Value.ref.inj (beq_iff_eq.mp z)))]
  show (if ((PySem.W.clsIn K CT).isSome && PySem.W.typeIn K (.ref CT) == some (.type "type")) = true then PySem.W.subIn K (.ref C) (.ref CT) else none) = some b
  rw [hc, ht, if_pos (by rfl)]
  exact h
theorem all_mk {l : PySem.W.OpenLaw} {w : World} {K : PySem.W.Frag} {h : Heap} {mg : Str → Option Value} {fa C CT f0 f1 f2 f3 f4 f5 f6 f7 f8 f9 f10 f11 f12 f13 f14 f15 f16 f17 : Addr} (X : K.In h) (G : h.Ns mainGlobals mg) (hfa : mg "law" = some (.ref fa))
    {od0 an0 od1 an1 od2 an2 od3 an3 od4 an4 od5 an5 od6 an6 od7 an7 od8 an8 od9 an9 od10 an10 od11 an11 od12 an12 od13 an13 od14 an14 od15 an15 od16 an16 od17 an17 : Option Addr} {sl0 sl1 sl2 sl3 sl4 sl5 sl6 sl7 sl8 sl9 sl10 sl11 sl12 sl13 sl14 sl15 sl16 sl17 : Array (Option Value)} {oc0 kV0 dc0 pm0 cd0 ct0 oc1 kV1 dc1 pm1 cd1 ct1 oc2 kV2 dc2 pm2 cd2 ct2 oc3 kV3 dc3 pm3 cd3 ct3 oc4 kV4 dc4 pm4 cd4 ct4 oc5 kV5 dc5 pm5 cd5 ct5 oc6 kV6 dc6 pm6 cd6 ct6 oc7 kV7 dc7 pm7 cd7 ct7 oc8 kV8 dc8 pm8 cd8 ct8 oc9 kV9 dc9 pm9 cd9 ct9 oc10 kV10 dc10 pm10 cd10 ct10 oc11 kV11 dc11 pm11 cd11 ct11 oc12 kV12 dc12 pm12 cd12 ct12 oc13 kV13 dc13 pm13 cd13 ct13 oc14 kV14 dc14 pm14 cd14 ct14 oc15 kV15 dc15 pm15 cd15 ct15 oc16 kV16 dc16 pm16 cd16 ct16 oc17 kV17 dc17 pm17 cd17 ct17 : Value}
    {nm q : Str} {N0 : Addr} {bs : List Value} {sn : List Str} {sub : List Value} {ab : Bool} {col : Option Bool} {dd : Option Addr} {m0 m1 m2 m3 m5 : Option Value}
    (gC : PySem.W.nsIn K mainGlobals "NoSuch" = some (some (.ref C)))
    (gT : PySem.W.nsIn K mainGlobals "TableError" = some (some (.ref CT)))
    (xC : K.lookup C = some (excClassObj nm q C N0 bs [.type "LookupError", .type "Exception", .type "BaseException", .type "object"] true sn sub ab col dd m0 m1 m2 m3 m5 "LookupError.__new__"))
    (sa : PySem.W.findIn K (.ref C) "__setattr__" = some (some (.builtin "object.__setattr__")))
    (exC : PySem.W.subIn K (.ref C) (.type "BaseException") = some true)
    (tyC : PySem.W.typeIn K (.ref C) = some (.type "type"))
    (kC : PySem.W.keepIn K (.ref C) = true)
    (hdC : PySem.W.hasDictIn K C = true)
    (sC : PySem.W.subIn K (.ref C) (.ref C) = some true)
    (iC : PySem.W.findIn K (.ref C) "__init__" = some (some (.ref f0)))
    (tI : PySem.W.typeIn K (.ref f0) = some (.type "function"))
    (l0 : K.lookup f0 = some ⟨oc0, od0, .func (PySem.W.fnOf "__init__" "NoSuch.__init__" (defArgs s_init) (defBody s_init) (defScope s_init) .none kV0 dc0 pm0 an0 cd0 ct0), sl0⟩)
    (c0 : PySem.W.codeIn K cd0 "NoSuch.__init__" = true)
    (k0 : PySem.W.keepIn K (.ref f0) = true)
    (fw : PySem.W.findIn K (.ref C) "what" = some none)
    (fn : PySem.W.findIn K (.ref C) "name" = some none)
    (ga : PySem.W.findIn K (.ref C) "__getattribute__" = some (some (.builtin "BaseException.__getattribute__")))
    (gg : PySem.W.findIn K (.ref C) "__getattr__" = some none)
    (ca : PySem.W.findIn K (.ref C) "__class__" = some (some (.builtin "object.__class__")))
    (sp : PySem.W.specialIn K (.builtin "object.__class__") "__get__" = some (some (.builtin "getset_descriptor.__get__")))
    (tk : PySem.W.takesIn K (.builtin "object.__class__") = some true)
    (mo : PySem.W.mroIn K C (.type "object") = some true)
    (hdT : PySem.W.hasDictIn K CT = true)
    (tyT : PySem.W.typeIn K (.ref CT) = some (.type "type"))
    (u1 : PySem.W.subIn K (.ref C) (.ref CT) = some false)
    (u2 : PySem.W.subIn K (.ref C) (.type "ValueError") = some false)
    (u3 : PySem.W.subIn K (.ref C) (.type "KeyError") = some false)
    (u4 : PySem.W.subIn K (.ref C) (.type "IndexError") = some false)
    (u5 : PySem.W.subIn K (.ref C) (.type "LookupError") = some true)
    (nCT : C ≠ CT)
    (a1 : PySem.W.nsIn K mainGlobals "_law_begin" = some (some (.ref f1))) (l1 : K.lookup f1 = some ⟨oc1, od1, .func (PySem.W.fnOf "_law_begin" "_law_begin" (defArgs s_law_begin) (defBody s_law_begin) (defScope s_law_begin) .none kV1 dc1 pm1 an1 cd1 ct1), sl1⟩) (c1 : PySem.W.codeIn K cd1 "_law_begin" = true) (k1 : PySem.W.keepIn K (.ref f1) = true)
    (a2 : PySem.W.nsIn K mainGlobals "_law_take" = some (some (.ref f2))) (l2 : K.lookup f2 = some ⟨oc2, od2, .func (PySem.W.fnOf "_law_take" "_law_take" (defArgs s_law_take) (defBody s_law_take) (defScope s_law_take) .none kV2 dc2 pm2 an2 cd2 ct2), sl2⟩) (c2 : PySem.W.codeIn K cd2 "_law_take" = true) (k2 : PySem.W.keepIn K (.ref f2) = true)
    (a3 : PySem.W.nsIn K mainGlobals "_law_some" = some (some (.ref f3))) (l3 : K.lookup f3 = some ⟨oc3, od3, .func (PySem.W.fnOf "_law_some" "_law_some" (defArgs s_law_some) (defBody s_law_some) (defScope s_law_some) .none kV3 dc3 pm3 an3 cd3 ct3), sl3⟩) (c3 : PySem.W.codeIn K cd3 "_law_some" = true) (k3 : PySem.W.keepIn K (.ref f3) = true)
    (a4 : PySem.W.nsIn K mainGlobals "_law_names" = some (some (.ref f4))) (l4 : K.lookup f4 = some ⟨oc4, od4, .func (PySem.W.fnOf "_law_names" "_law_names" (defArgs s_law_names) (defBody s_law_names) (defScope s_law_names) .none kV4 dc4 pm4 an4 cd4 ct4), sl4⟩) (c4 : PySem.W.codeIn K cd4 "_law_names" = true) (k4 : PySem.W.keepIn K (.ref f4) = true)
    (a5 : PySem.W.nsIn K mainGlobals "_law_worth" = some (some (.ref f5))) (l5 : K.lookup f5 = some ⟨oc5, od5, .func (PySem.W.fnOf "_law_worth" "_law_worth" (defArgs s_law_worth) (defBody s_law_worth) (defScope s_law_worth) .none kV5 dc5 pm5 an5 cd5 ct5), sl5⟩) (c5 : PySem.W.codeIn K cd5 "_law_worth" = true) (k5 : PySem.W.keepIn K (.ref f5) = true)
    (a6 : PySem.W.nsIn K mainGlobals "_law_tables" = some (some (.ref f6))) (l6 : K.lookup f6 = some ⟨oc6, od6, .func (PySem.W.fnOf "_law_tables" "_law_tables" (defArgs s_law_tables) (defBody s_law_tables) (defScope s_law_tables) .none kV6 dc6 pm6 an6 cd6 ct6), sl6⟩) (c6 : PySem.W.codeIn K cd6 "_law_tables" = true) (k6 : PySem.W.keepIn K (.ref f6) = true)
    (a7 : PySem.W.nsIn K mainGlobals "_law_ties" = some (some (.ref f7))) (l7 : K.lookup f7 = some ⟨oc7, od7, .func (PySem.W.fnOf "_law_ties" "_law_ties" (defArgs s_law_ties) (defBody s_law_ties) (defScope s_law_ties) .none kV7 dc7 pm7 an7 cd7 ct7), sl7⟩) (c7 : PySem.W.codeIn K cd7 "_law_ties" = true) (k7 : PySem.W.keepIn K (.ref f7) = true)
    (a8 : PySem.W.nsIn K mainGlobals "_columns_of" = some (some (.ref f8))) (l8 : K.lookup f8 = some ⟨oc8, od8, .func (PySem.W.fnOf "_columns_of" "_columns_of" (defArgs s_columns_of) (defBody s_columns_of) (defScope s_columns_of) .none kV8 dc8 pm8 an8 cd8 ct8), sl8⟩) (c8 : PySem.W.codeIn K cd8 "_columns_of" = true) (k8 : PySem.W.keepIn K (.ref f8) = true)
    (a9 : PySem.W.nsIn K mainGlobals "column_names" = some (some (.ref f9))) (l9 : K.lookup f9 = some ⟨oc9, od9, .func (PySem.W.fnOf "column_names" "column_names" (defArgs s_column_names) (defBody s_column_names) (defScope s_column_names) .none kV9 dc9 pm9 an9 cd9 ct9), sl9⟩) (c9 : PySem.W.codeIn K cd9 "column_names" = true) (k9 : PySem.W.keepIn K (.ref f9) = true)
    (a10 : PySem.W.nsIn K mainGlobals "column_place" = some (some (.ref f10))) (l10 : K.lookup f10 = some ⟨oc10, od10, .func (PySem.W.fnOf "column_place" "column_place" (defArgs s_column_place) (defBody s_column_place) (defScope s_column_place) .none kV10 dc10 pm10 an10 cd10 ct10), sl10⟩) (c10 : PySem.W.codeIn K cd10 "column_place" = true) (k10 : PySem.W.keepIn K (.ref f10) = true)
    (a11 : PySem.W.nsIn K mainGlobals "fallback_of" = some (some (.ref f11))) (l11 : K.lookup f11 = some ⟨oc11, od11, .func (PySem.W.fnOf "fallback_of" "fallback_of" (defArgs s_fallback_of) (defBody s_fallback_of) (defScope s_fallback_of) .none kV11 dc11 pm11 an11 cd11 ct11), sl11⟩) (c11 : PySem.W.codeIn K cd11 "fallback_of" = true) (k11 : PySem.W.keepIn K (.ref f11) = true)
    (a12 : PySem.W.nsIn K mainGlobals "tie_of" = some (some (.ref f12))) (l12 : K.lookup f12 = some ⟨oc12, od12, .func (PySem.W.fnOf "tie_of" "tie_of" (defArgs s_tie_of) (defBody s_tie_of) (defScope s_tie_of) .none kV12 dc12 pm12 an12 cd12 ct12), sl12⟩) (c12 : PySem.W.codeIn K cd12 "tie_of" = true) (k12 : PySem.W.keepIn K (.ref f12) = true)
    (a13 : PySem.W.nsIn K mainGlobals "ties_on" = some (some (.ref f13))) (l13 : K.lookup f13 = some ⟨oc13, od13, .func (PySem.W.fnOf "ties_on" "ties_on" (defArgs s_ties_on) (defBody s_ties_on) (defScope s_ties_on) .none kV13 dc13 pm13 an13 cd13 ct13), sl13⟩) (c13 : PySem.W.codeIn K cd13 "ties_on" = true) (k13 : PySem.W.keepIn K (.ref f13) = true)
    (a14 : PySem.W.nsIn K mainGlobals "_law_same" = some (some (.ref f14))) (l14 : K.lookup f14 = some ⟨oc14, od14, .func (PySem.W.fnOf "_law_same" "_law_same" (defArgs s_law_same) (defBody s_law_same) (defScope s_law_same) .none kV14 dc14 pm14 an14 cd14 ct14), sl14⟩) (c14 : PySem.W.codeIn K cd14 "_law_same" = true) (k14 : PySem.W.keepIn K (.ref f14) = true)
    (a15 : PySem.W.nsIn K mainGlobals "_law_told" = some (some (.ref f15))) (l15 : K.lookup f15 = some ⟨oc15, od15, .func (PySem.W.fnOf "_law_told" "_law_told" (defArgs s_law_told) (defBody s_law_told) (defScope s_law_told) .none kV15 dc15 pm15 an15 cd15 ct15), sl15⟩) (c15 : PySem.W.codeIn K cd15 "_law_told" = true) (k15 : PySem.W.keepIn K (.ref f15) = true)
    (a16 : PySem.W.nsIn K mainGlobals "_law_strange_right" = some (some (.ref f16))) (l16 : K.lookup f16 = some ⟨oc16, od16, .func (PySem.W.fnOf "_law_strange_right" "_law_strange_right" (defArgs s_law_strange_right) (defBody s_law_strange_right) (defScope s_law_strange_right) .none kV16 dc16 pm16 an16 cd16 ct16), sl16⟩) (c16 : PySem.W.codeIn K cd16 "_law_strange_right" = true) (k16 : PySem.W.keepIn K (.ref f16) = true)
    (a17 : PySem.W.nsIn K mainGlobals "law" = some (some (.ref f17))) (l17 : K.lookup f17 = some ⟨oc17, od17, .func (PySem.W.fnOf "law" "law" (defArgs s_law) (defBody s_law) (defScope s_law) .none kV17 dc17 pm17 an17 cd17 ct17), sl17⟩) (c17 : PySem.W.codeIn K cd17 "law" = true) (k17 : PySem.W.keepIn K (.ref f17) = true)
    (z_list : PySem.W.nsIn K mainGlobals "list" = some none)
    (z_len : PySem.W.nsIn K mainGlobals "len" = some none)
    (z_divmod : PySem.W.nsIn K mainGlobals "divmod" = some none)
    (z_range : PySem.W.nsIn K mainGlobals "range" = some none)
    (z_min : PySem.W.nsIn K mainGlobals "min" = some none)
    (z_int : PySem.W.nsIn K mainGlobals "int" = some none)
    (z_bool : PySem.W.nsIn K mainGlobals "bool" = some none)
    (z_str : PySem.W.nsIn K mainGlobals "str" = some none)
    (z_tuple : PySem.W.nsIn K mainGlobals "tuple" = some none)
    (z_all : PySem.W.nsIn K mainGlobals "all" = some none)
    (z_any : PySem.W.nsIn K mainGlobals "any" = some none)
    (z_repr : PySem.W.nsIn K mainGlobals "repr" = some none)
    (z_isinstance : PySem.W.nsIn K mainGlobals "isinstance" = some none)
    (z_zip : PySem.W.nsIn K mainGlobals "zip" = some none)
    (z_enumerate : PySem.W.nsIn K mainGlobals "enumerate" = some none)
    (z_set : PySem.W.nsIn K mainGlobals "set" = some none)
    (z_ValueError : PySem.W.nsIn K mainGlobals "ValueError" = some none)
    (z_KeyError : PySem.W.nsIn K mainGlobals "KeyError" = some none)
    (z_IndexError : PySem.W.nsIn K mainGlobals "IndexError" = some none)
    (z_LookupError : PySem.W.nsIn K mainGlobals "LookupError" = some none)
    : ∃ fd : FuncData, (∀ (s : Shared) (v : Value), BindsTo s fd ⟨[v], []⟩ [("script", v)]) ∧ ∀ base : Heap, K.In base → base.Ns mainGlobals mg → FnG l.prog w K mg base CX0 9 fa fd ["script"] (spLaw K) := by
  have e := hfa.symm.trans (PySem.W.mg_of X G a17)
  cases e
  have nb : NB mg := ⟨PySem.W.mg_none_of X G z_list, PySem.W.mg_none_of X G z_len, PySem.W.mg_none_of X G z_divmod, PySem.W.mg_none_of X G z_range, PySem.W.mg_none_of X G z_min, PySem.W.mg_none_of X G z_int, PySem.W.mg_none_of X G z_bool, PySem.W.mg_none_of X G z_str, PySem.W.mg_none_of X G z_tuple, PySem.W.mg_none_of X G z_all, PySem.W.mg_none_of X G z_any, PySem.W.mg_none_of X G z_repr, PySem.W.mg_none_of X G z_isinstance, PySem.W.mg_none_of X G z_zip, PySem.W.mg_none_of X G z_enumerate, PySem.W.mg_none_of X G z_set⟩
  have T : OexG K C := ⟨⟨_, _, _, _, nm, q, N0, bs, _, sn, sub, ab, col, dd, m0, m1, m2, m3, m5, PySem.F.excBase_LookupError, PySem.F.store_LookupError, xC, by decide +kernel⟩, sa, exC, tyC, kC⟩
  have kx : KxC K C := ⟨(let ⟨cd, hc, _⟩ := PySem.W.any_some hdC; by rw [hc]; rfl), ga, gg, exC, ca, sp, tk, mo, hdC⟩
  have ne : NE K mg C CT := ⟨PySem.W.mg_none_of X G z_ValueError, PySem.W.mg_none_of X G z_KeyError, PySem.W.mg_none_of X G z_IndexError, PySem.W.mg_none_of X G z_LookupError, PySem.W.mg_of X G gT, kx, PySem.W.exm_ref exC hdC tyC sC,
    kitAny_cons (kit_own nCT hdT tyT u1) (fun _ => kitAny_cons (kit_blt u2 (by decide +kernel)) (fun _ => kitAny_cons (kit_blt u3 (by decide +kernel)) (fun _ => kitAny_cons (kit_blt u4 (by decide +kernel)) (fun _ => kitAny_nil) (fun z => by cases z)) (fun z => by cases z)) (fun z => by cases z)) (fun z => by cases z), kit_blt u5 (by decide +kernel), fw, fn⟩
  have F0 := fun_mk (st := s_init) l0 c0 k0
  have b0 := F0.binds (ps := ["self", "what", "name"]) fun _ _ _ _ _ _ us hl => match us, hl with | [_, _, _], _ => rfl
  refine ⟨PySem.W.fnOf "law" "law" (defArgs s_law) (defBody s_law) (defScope s_law) .none kV17 dc17 pm17 an17 cd17 ct17, fun s v => .of_eq rfl, fun base _ _ => ?_⟩
  have N : NoS l.prog w K mg base C := ⟨T, PySem.W.mg_of X G gC, ⟨f0, _, iC, tI, b0, ok_init F0 T fw fn⟩⟩
  have F1 := fun_mk (st := s_law_begin) l1 c1 k1
  have b1 := F1.binds (ps := ["script"]) fun _ _ _ _ _ _ us hl => match us, hl with | [_], _ => rfl
  have D_law_begin : Def l.prog w K mg base 1 "_law_begin" ["script"] (spBegin K) := .mk (PySem.W.mg_of X G a1) k1 b1 (ok_begin F1 nb)
  have F2 := fun_mk (st := s_law_take) l2 c2 k2
  have b2 := F2.binds (ps := ["state", "many"]) fun _ _ _ _ _ _ us hl => match us, hl with | [_, _], _ => rfl
  have D_law_take : Def l.prog w K mg base 1 "_law_take" ["state", "many"] spTake := .mk (PySem.W.mg_of X G a2) k2 b2 (ok_take F2 nb)
  have F3 := fun_mk (st := s_law_some) l3 c3 k3
  have b3 := F3.binds (ps := ["state", "things"]) fun _ _ _ _ _ _ us hl => match us, hl with | [_, _], _ => rfl
  have D_law_some : Def l.prog w K mg base 2 "_law_some" ["state", "things"] (spSome K) := .mk (PySem.W.mg_of X G a3) k3 b3 (ok_some F3 nb D_law_take)
  have F4 := fun_mk (st := s_law_names) l4 c4 k4
  have b4 := F4.binds (ps := ["state", "many"]) fun _ _ _ _ _ _ us hl => match us, hl with | [_, _], _ => rfl
  have D_law_names : Def l.prog w K mg base 2 "_law_names" ["state", "many"] spNames := .mk (PySem.W.mg_of X G a4) k4 b4 (ok_names F4 nb D_law_take)
  have F5 := fun_mk (st := s_law_worth) l5 c5 k5
  have b5 := F5.binds (ps := ["state"]) fun _ _ _ _ _ _ us hl => match us, hl with | [_], _ => rfl
  have D_law_worth : Def l.prog w K mg base 2 "_law_worth" ["state"] spWorth := .mk (PySem.W.mg_of X G a5) k5 b5 (ok_worth F5 D_law_take)
  have F6 := fun_mk (st := s_law_tables) l6 c6 k6
  have b6 := F6.binds (ps := ["state", "many", "wide"]) fun _ _ _ _ _ _ us hl => match us, hl with | [_, _, _], _ => rfl
  have D_law_tables : Def l.prog w K mg base 3 "_law_tables" ["state", "many", "wide"] (spTables K) := .mk (PySem.W.mg_of X G a6) k6 b6 (ok_tables F6 nb D_law_take D_law_names D_law_worth)
  have F7 := fun_mk (st := s_law_ties) l7 c7 k7
  have b7 := F7.binds (ps := ["state", "tables", "many"]) fun _ _ _ _ _ _ us hl => match us, hl with | [_, _, _], _ => rfl
  have D_law_ties : Def l.prog w K mg base 3 "_law_ties" ["state", "tables", "many"] (spTies K) := .mk (PySem.W.mg_of X G a7) k7 b7 (ok_law_ties F7 nb D_law_take D_law_some D_law_names)
  have F8 := fun_mk (st := s_columns_of) l8 c8 k8
  have b8 := F8.binds (ps := ["tables", "table"]) fun _ _ _ _ _ _ us hl => match us, hl with | [_, _], _ => rfl
  have D_columns_of : DefX l.prog w K mg base 3 "_columns_of" ["tables", "table"] (spColsX K C) := ⟨f8, _, PySem.W.mg_of X G a8, k8, b8, (ok_columns_of N F8)⟩
  have F9 := fun_mk (st := s_column_names) l9 c9 k9
  have b9 := F9.binds (ps := ["tables", "table"]) fun _ _ _ _ _ _ us hl => match us, hl with | [_, _], _ => rfl
  have D_column_names : DefX l.prog w K mg base 4 "column_names" ["tables", "table"] (spNamesX K C) := ⟨f9, _, PySem.W.mg_of X G a9, k9, b9, (ok_column_names F9 D_columns_of)⟩
  have F10 := fun_mk (st := s_column_place) l10 c10 k10
  have b10 := F10.binds (ps := ["tables", "table", "column"]) fun _ _ _ _ _ _ us hl => match us, hl with | [_, _, _], _ => rfl
  have D_column_place : DefX l.prog w K mg base 5 "column_place" ["tables", "table", "column"] (spPlaceX K C) := ⟨f10, _, PySem.W.mg_of X G a10, k10, b10, (ok_column_place N F10 D_column_names)⟩
  have F11 := fun_mk (st := s_fallback_of) l11 c11 k11
  have b11 := F11.binds (ps := ["tables", "table", "column"]) fun _ _ _ _ _ _ us hl => match us, hl with | [_, _, _], _ => rfl
  have D_fallback_of : DefX l.prog w K mg base 6 "fallback_of" ["tables", "table", "column"] (spFallX K C) := ⟨f11, _, PySem.W.mg_of X G a11, k11, b11, (ok_fallback_of F11 D_columns_of D_column_place)⟩
  have F12 := fun_mk (st := s_tie_of) l12 c12 k12
  have b12 := F12.binds (ps := ["plan", "tie"]) fun _ _ _ _ _ _ us hl => match us, hl with | [_, _], _ => rfl
  have D_tie_of : DefX l.prog w K mg base 3 "tie_of" ["plan", "tie"] (spTieOf K C) := ⟨f12, _, PySem.W.mg_of X G a12, k12, b12, (ok_tie_of N F12 nb)⟩
  have F13 := fun_mk (st := s_ties_on) l13 c13 k13
  have b13 := F13.binds (ps := ["plan", "table"]) fun _ _ _ _ _ _ us hl => match us, hl with | [_, _], _ => rfl
  have D_ties_on : Def l.prog w K mg base 1 "ties_on" ["plan", "table"] (spTiesOn K) := .mk (PySem.W.mg_of X G a13) k13 b13 (ok_ties_on F13 nb)
  have F14 := fun_mk (st := s_law_same) l14 c14 k14
  have b14 := F14.binds (ps := ["found", "due"]) fun _ _ _ _ _ _ us hl => match us, hl with | [_, _], _ => rfl
  have D_law_same : Def l.prog w K mg base 7 "_law_same" ["found", "due"] (spSame 6 K) := .mk (PySem.W.mg_of X G a14) k14 b14 (ok_same F14 nb (PySem.W.mg_of X G a14) b14 6)
  have F15 := fun_mk (st := s_law_told) l15 c15 k15
  have b15 := F15.binds (ps := ["which", "plan", "table", "column"]) fun _ _ _ _ _ _ us hl => match us, hl with | [_, _, _, _], _ => rfl
  have D_law_told : Def l.prog w K mg base 7 "_law_told" ["which", "plan", "table", "column"] (spTold K) := .mk (PySem.W.mg_of X G a15) k15 b15 (ok_law_told N ne F15 nb D_column_place D_fallback_of D_tie_of)
  have F16 := fun_mk (st := s_law_strange_right) l16 c16 k16
  have b16 := F16.binds (ps := ["plan", "strange", "other"]) fun _ _ _ _ _ _ us hl => match us, hl with | [_, _, _], _ => rfl
  have D_law_strange_right : Def l.prog w K mg base 8 "_law_strange_right" ["plan", "strange", "other"] (spStrange K) := .mk (PySem.W.mg_of X G a16) k16 b16 (ok_strange F16 nb D_law_same D_law_told)
  have F17 := fun_mk (st := s_law) l17 c17 k17
  exact ok_law F17 nb D_law_begin D_law_take D_law_some D_law_tables D_law_ties D_ties_on D_law_same D_law_told D_law_strange_right
end TT
open PySem PySem.W PyProof.Rows
set_option maxRecDepth 100000 in
set_option maxHeartbeats 0 in
theorem PySem.Challenge.cw_tiedtables_k03_places_fallbacks_ties_fou_holds : PySem.Challenge.rw_tiedtables_k03_places_fallbacks_ties_fou.Holds := by
  w_on; o_law; k_head; (case hw => w_witness2)
  k_fill
  refine TT.walk_ofG (l := PySem.Challenge.rw_tiedtables_k03_places_fallbacks_ties_fou) (n := 63) (k := 9) (x := "script") (sp := TT.spLaw) rfl (by decide) rfl ⟨rfl, by decide, by decide⟩ (fun w h Y => PySem.W.kIn_of Y) ?F (fun K H a ns hl hO hS => ⟨a, ns, rfl, hS, fun _ => rfl⟩)
  case F =>
    intro w mg fa h KX G hmg
    refine' TT.all_mk KX G hmg ?gC ?gT ?xC ?sa ?exC ?tyC ?kC ?hdC ?sC ?iC ?tI ?l0 ?c0 ?k0 ?fw ?fn ?ga ?gg ?ca ?sp ?tk ?mo ?hdT ?tyT ?u1 ?u2 ?u3 ?u4 ?u5 ?nCT ?a1 ?l1 ?c1 ?k1 ?a2 ?l2 ?c2 ?k2 ?a3 ?l3 ?c3 ?k3 ?a4 ?l4 ?c4 ?k4 ?a5 ?l5 ?c5 ?k5 ?a6 ?l6 ?c6 ?k6 ?a7 ?l7 ?c7 ?k7 ?a8 ?l8 ?c8 ?k8 ?a9 ?l9 ?c9 ?k9 ?a10 ?l10 ?c10 ?k10 ?a11 ?l11 ?c11 ?k11 ?a12 ?l12 ?c12 ?k12 ?a13 ?l13 ?c13 ?k13 ?a14 ?l14 ?c14 ?k14 ?a15 ?l15 ?c15 ?k15 ?a16 ?l16 ?c16 ?k16 ?a17 ?l17 ?c17 ?k17 ?z_list ?z_len ?z_divmod ?z_range ?z_min ?z_int ?z_bool ?z_str ?z_tuple ?z_all ?z_any ?z_repr ?z_isinstance ?z_zip ?z_enumerate ?z_set ?z_ValueError ?z_KeyError ?z_IndexError ?z_LookupError
    (case gC => k_is)
    (case gT => k_is)
    (case xC => k_is)
    (case sa => k_is)
    (case exC => k_is)
    (case tyC => k_is)
    (case kC => k_is)
    (case hdC => k_is)
    (case sC => k_is)
    (case iC => k_is)
    (case tI => k_is)
    (case l0 => k_is)
    (case c0 => k_is)
    (case k0 => k_is)
    (case fw => k_is)
    (case fn => k_is)
    (case ga => k_is)
    (case gg => k_is)
    (case ca => k_is)
    (case sp => k_is)
    (case tk => k_is)
    (case mo => k_is)
    (case hdT => k_is)
    (case tyT => k_is)
    (case u1 => k_is)
    (case u2 => k_is)
    (case u3 => k_is)
    (case u4 => k_is)
    (case u5 => k_is)
    (case nCT => decide)
    (case a1 => k_is)
    (case l1 => k_is)
    (case c1 => k_is)
    (case k1 => k_is)
    (case a2 => k_is)
    (case l2 => k_is)
    (case c2 => k_is)
    (case k2 => k_is)
    (case a3 => k_is)
    (case l3 => k_is)
    (case c3 => k_is)
    (case k3 => k_is)
    (case a4 => k_is)
    (case l4 => k_is)
    (case c4 => k_is)
    (case k4 => k_is)
    (case a5 => k_is)
    (case l5 => k_is)
    (case c5 => k_is)
    (case k5 => k_is)
    (case a6 => k_is)
    (case l6 => k_is)
    (case c6 => k_is)
    (case k6 => k_is)
    (case a7 => k_is)
    (case l7 => k_is)
    (case c7 => k_is)
    (case k7 => k_is)
    (case a8 => k_is)
    (case l8 => k_is)
    (case c8 => k_is)
    (case k8 => k_is)
    (case a9 => k_is)
    (case l9 => k_is)
    (case c9 => k_is)
    (case k9 => k_is)
    (case a10 => k_is)
    (case l10 => k_is)
    (case c10 => k_is)
    (case k10 => k_is)
    (case a11 => k_is)
    (case l11 => k_is)
    (case c11 => k_is)
    (case k11 => k_is)
    (case a12 => k_is)
    (case l12 => k_is)
    (case c12 => k_is)
    (case k12 => k_is)
    (case a13 => k_is)
    (case l13 => k_is)
    (case c13 => k_is)
    (case k13 => k_is)
    (case a14 => k_is)
    (case l14 => k_is)
    (case c14 => k_is)
    (case k14 => k_is)
    (case a15 => k_is)
    (case l15 => k_is)
    (case c15 => k_is)
    (case k15 => k_is)
    (case a16 => k_is)
    (case l16 => k_is)
    (case c16 => k_is)
    (case k16 => k_is)
    (case a17 => k_is)
    (case l17 => k_is)
    (case c17 => k_is)
    (case k17 => k_is)
    (case z_list => k_is)
    (case z_len => k_is)
    (case z_divmod => k_is)
    (case z_range => k_is)
    (case z_min => k_is)
    (case z_int => k_is)
    (case z_bool => k_is)
    (case z_str => k_is)
    (case z_tuple => k_is)
    (case z_all => k_is)
    (case z_any => k_is)
    (case z_repr => k_is)
    (case z_isinstance => k_is)
    (case z_zip => k_is)
    (case z_enumerate => k_is)
    (case z_set => k_is)
    (case z_ValueError => k_is)
    (case z_KeyError => k_is)
    (case z_IndexError => k_is)
    (case z_LookupError => k_is)
